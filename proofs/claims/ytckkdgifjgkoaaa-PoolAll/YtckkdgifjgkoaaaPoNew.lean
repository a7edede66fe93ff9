/- New of the reference of chapter 13. -/
import Derived.Test.YtckkdgifjgkoaaaPoAdd
namespace Go.Proofs.Ytckkdgifjgkoaaa
open Go.ChangeShapes Go.WideShapes Go.ChangeAt Go.RowKit An

theorem an_weaken {hd : Bk → Value → An → List Value} {base c : Nat} {W : World} {b : Bk} {v : Value} {s : An} (h : AnAt hd base W b v s) (hc : c ≤ base) : AnAt hd c W b v s :=
  ⟨h.head, h.la, h.lo, h.ll, h.lk, own_mono h.st hc, h.nod, fun x hx => Nat.le_trans hc (h.ge x hx), h.off⟩
/-- What has come up, in the order in which it stands: key, room, the anchor, room, the row, room, the struct, its block, its block. -/
def poolF (c room : Nat) (key : ByteArray) : Nat → Value → World → Prop
  | 0, v, _ => v = .string key
  | 1, v, _ => v = .int .i64 (room : Int)
  | 2, v, u => ∃ bk va, v = .pointer (some ⟨bk.p, 0, none⟩) ∧ AnAt hdR c u bk va (An.start room 1)
  | 3, v, _ => v = .int .i64 (room : Int)
  | 4, v, u => ∃ g, v = .slice (some ⟨g, 0, none⟩) room room ∧ Lst u g room (fun _ => 0) ∧ c ≤ g
  | 5, v, _ => v = .int .i64 (room : Int)
  | 6, v, u => ∃ bk va g, v = .agg #[.string key, .pointer (some ⟨bk.p, 0, none⟩), .slice none 0 0, .slice (some ⟨g, 0, none⟩) room room, .int .i64 (room : Int)] ∧ AnAt hdR c u bk va (An.start room 1) ∧ Lst u g room (fun _ => 0) ∧ c ≤ g ∧ g ∉ feet bk va
  | 7, v, u => ∃ b va, v = .pointer (some ⟨b.p, 0, none⟩) ∧ RAt c u key room b va (.slice none 0 0) (An.start room 1) [] (fun _ => 0)
  | _, v, u => ∃ b va, v = .pointer (some ⟨b.p, 0, none⟩) ∧ RAt c u key room b va (.slice none 0 0) (An.start room 1) [] (fun _ => 0)
theorem poolF_on (c room : Nat) (key : ByteArray) : ∀ i v u u', poolF c room key i v u → Below u.heap.size u u' → poolF c room key i v u'
  | 0, _, _, _, h, _ => h
  | 1, _, _, _, h, _ => h
  | 2, _, _, _, ⟨bk, va, h1, h2⟩, hb => ⟨bk, va, h1, h2.on hb⟩
  | 3, _, _, _, h, _ => h
  | 4, _, _, _, ⟨g, h1, h2, h3⟩, hb => ⟨g, h1, h2.of_block (hb.block g h2.lt), h3⟩
  | 5, _, _, _, h, _ => h
  | 6, _, _, _, ⟨bk, va, g, h1, h2, h3, h4, h5⟩, hb => ⟨bk, va, g, h1, h2.on hb, h3.of_block (hb.block g h3.lt), h4, h5⟩
  | 7, _, _, _, ⟨b, va, h1, h2⟩, hb => ⟨b, va, h1, h2.on hb⟩
  | _ + 8, _, _, _, ⟨b, va, h1, h2⟩, hb => ⟨b, va, h1, h2.on hb⟩
/-- Both blocks are there, and apart. -/
def Both (c room : Nat) (b : Act) (u : World) : Prop := ∃ bk va g, b.tmps.getD 18 undef = .pointer (some ⟨bk.p, 0, none⟩) ∧ b.tmps.getD 20 undef = .slice (some ⟨g, 0, none⟩) room room ∧ AnAt hdR c u bk va (An.start room 1) ∧ Lst u g room (fun _ => 0) ∧ c ≤ g ∧ g ∉ feet bk va
def poolI (w : World) (room n : Nat) (come : Nat → Prop) (b : Act) (u : World) : Prop := Below w.heap.size w.drew u ∧ b.tmps.size = n ∧ (come 2 → come 4 → Both w.heap.size room b u)
theorem both_on {c room : Nat} {b : Act} {u u' : World} (h : Both c room b u) (hb : Below u.heap.size u u') {t : Tmp} (v : Value) (h1 : t ≠ 18) (h2 : t ≠ 20) : Both c room (b.put (some t) v) u' := by
  obtain ⟨bk, va, g, e1, e2, h3, h4, h5, h6⟩ := h
  refine ⟨bk, va, g, ?_, ?_, h3.on hb, h4.of_block (hb.block g h4.lt), h5, h6⟩
  · rw [getD_put_other _ _ _ _ (fun e => h1 (Option.some.inj e))]; exact e1
  · rw [getD_put_other _ _ _ _ (fun e => h2 (Option.some.inj e))]; exact e2
theorem poolI_on {w : World} {room n i : Nat} {come : Nat → Prop} {b : Act} {u u' : World} (h : poolI w room n come b u) (hb : Below u.heap.size u u') {t : Tmp} (v : Value) (h1 : t ≠ 18) (h2 : t ≠ 20) (i2 : i ≠ 2) (i4 : i ≠ 4) : poolI w room n (fun j => j = i ∨ come j) (b.put (some t) v) u' := by
  obtain ⟨h3, h4, h5⟩ := h
  refine ⟨h3.trans (hb.mono h3.size), (size_put _ _ _).trans h4, fun k2 k4 => both_on (h5 ?_ ?_) hb v h1 h2⟩
  · exact k2.resolve_left fun e => i2 e.symm
  · exact k4.resolve_left fun e => i4 e.symm
theorem pool_row (w : World) (key : ByteArray) (room g : Nat) (bk : Bk) (t : TypeId) : Row (w.alloc (.cells #[.string key, .pointer (some ⟨bk.p, 0, none⟩), .slice none 0 0, .slice (some ⟨g, 0, none⟩) room room, .int .i64 (room : Int)] t)) w.heap.size (hdP key room ⟨w.heap.size, bk, g, room⟩ (.slice none 0 0)) := row_new w _ t
theorem pool_made {c room g : Nat} {key : ByteArray} {u : World} {bk : Bk} {va : Value} (h2 : AnAt hdR c u bk va (An.start room 1)) (h3 : Lst u g room (fun _ => 0)) (h4 : c ≤ g) (h5 : g ∉ feet bk va) (hc : c ≤ u.heap.size) (t : TypeId) :
    RAt c (u.alloc (.cells #[.string key, .pointer (some ⟨bk.p, 0, none⟩), .slice none 0 0, .slice (some ⟨g, 0, none⟩) room room, .int .i64 (room : Int)] t)) key room ⟨u.heap.size, bk, g, room⟩ va (.slice none 0 0) (An.start room 1) [] (fun _ => 0) := by
  have hb : Below u.heap.size u (u.alloc (.cells #[.string key, .pointer (some ⟨bk.p, 0, none⟩), .slice none 0 0, .slice (some ⟨g, 0, none⟩) room room, .int .i64 (room : Int)] t)) := (Below.refl _ _).alloc (Nat.le_refl _) _
  refine ⟨pool_row u key room g bk t, h2.on hb, World.ownsRow_nil _ _ _ _, h3.of_block (hb.block g h3.lt), hc, h4, ?_, ?_, ?_, ?_, h5, ?_⟩
  · show u.heap.size ≠ g
    have := h3.lt; omega
  · intro h; cases h
  · intro h; cases h
  · intro h
    have := (h2.lt _ h).2
    exact absurd this (by show ¬ u.heap.size < _; omega)
  · intro x h; cases h
theorem list9 {l : List Value} (h : l.length = 9) : ∃ a b c d e f g h i, l = [a, b, c, d, e, f, g, h, i] := by
  match l, h with
  | [a, b, c, d, e, f, g, h, i], _ => exact ⟨a, b, c, d, e, f, g, h, i, rfl⟩
section
set_option maxRecDepth 100000 in
set_option maxHeartbeats 1000000 in
theorem rmake_bad (room : Int) (key : ByteArray) (hf : room < 1 ∨ 65536 < room ∨ key.size ≠ 16) (w : World) :
    Calls Try.prog 10 #[.int .i64 room, .string key] w fun e w' => e = .returned (.pointer none) ∧ w' = w := by
  by_cases h1 : room < 1
  · clear hf
    go_enter Try.func10, Try.ntmps10
    go_wp2_with fail
    go_ret
    exact ⟨rfl, rfl⟩
  · by_cases h2 : 65536 < room
    · clear hf
      go_enter Try.func10, Try.ntmps10
      go_wp2_with fail
      go_ret
      exact ⟨rfl, rfl⟩
    · have h3 : key.size ≠ 16 := by omega
      have h4 : ((key.size : Int) == 16) = false := by rw [beq_eq_false_iff_ne]; omega
      have h5 : (key.size == 16) = false := by rw [beq_eq_false_iff_ne]; exact h3
      have h6 : ((key.size : Int) != 16) = true := by simp; omega
      have h7 : (key.size != 16) = true := by simp; exact h3
      clear hf
      go_enter Try.func10, Try.ntmps10
      go_wp2_with fail
      go_ret
      exact ⟨rfl, rfl⟩
set_option maxRecDepth 100000 in
set_option maxHeartbeats 4000000 in
theorem rmake_ok (room : Nat) (key : ByteArray) (h1 : 1 ≤ room) (hr : room ≤ 65536) (hk : key.size = 16) (w : World) :
    Calls Try.prog 10 #[.int .i64 (room : Int), .string key] w fun e w' => ∃ b va, e = .returned (.pointer (some ⟨b.p, 0, none⟩)) ∧ RAt w.heap.size w' key room b va (.slice none 0 0) (An.start room 1) [] (fun _ => 0) ∧ Below w.heap.size w w' := by
  have q1 : ¬ (room : Int) < 1 := by omega
  have q2 : ¬ (65536 : Int) < room := by omega
  have HR : Shut (1 ≤ room ∧ room ≤ 65536) := ⟨h1, hr⟩
  have q3 : (key.size : Int) = 16 := by omega
  have q4 : ((key.size : Int) == 16) = true := by rw [q3]; rfl
  clear h1 hr
  go_enter Try.func10, Try.ntmps10
  go_wp2_with fail
  refine wp_region_invx (by kernel_rfl) (poolF w.heap.size room key) (poolI w room 24) (by kernel_rfl) ⟨Below.refl _ _, rfl, fun h => h.elim⟩ ?op ?fin
  case op =>
    intro iop o bx u come ho hn hC hr hI hold hnew
    have hsz : w.heap.size ≤ u.heap.size := hI.1.size
    have hon : ∀ {i : Nat} {v : Value} {u' : World}, Below u.heap.size u u' → ∀ j x, come j → poolF w.heap.size room key j x u → poolF w.heap.size room key j x u' := fun hb j x _ h => poolF_on _ _ _ j x u _ h hb
    match iop, ho with
    | 0, ho =>
      obtain rfl := Option.some.inj ho
      have d1 : bx.tmps.getD 1 undef = .string key := hold 1 (base_of (by kernel_rfl))
      refine .inl ⟨rfl, yieldsY_value (v := .string key) (u' := u) ?_ ⟨poolI_on hI (Below.refl _ _) _ (by decide) (by decide) (by decide) (by decide), rfl, fun _ _ _ h => h⟩⟩
      simp [execOp, Act.eval, d1]
    | 1, ho =>
      obtain rfl := Option.some.inj ho
      have d1 : bx.tmps.getD 0 undef = .int .i64 (room : Int) := hold 0 (base_of (by kernel_rfl))
      refine .inl ⟨rfl, yieldsY_value (v := .int .i64 (room : Int)) (u' := u) ?_ ⟨poolI_on hI (Below.refl _ _) _ (by decide) (by decide) (by decide) (by decide), rfl, fun _ _ _ h => h⟩⟩
      simp [execOp, Act.eval, d1]
    | 2, ho =>
      obtain rfl := Option.some.inj ho
      have d : bx.tmps.getD 17 undef = .int .i64 (room : Int) := hnew 1 17 (hr 1 (by kernel_rfl)) (by kernel_rfl)
      refine .inl ⟨rfl, yieldsY_call (f := 24) (args := #[.int .i64 (room : Int), .int .i64 1]) (u := u) ?_ ((rnew_made room 1 (by decide) HR.out.1 HR.out.2 u).mono fun e u' ⟨bk, va, h1, h2, h3⟩ => ⟨.pointer (some ⟨bk.p, 0, none⟩), h1, ⟨bk, va, rfl, h2, h3⟩⟩)
        (K := fun v u' => ∃ bk va, v = .pointer (some ⟨bk.p, 0, none⟩) ∧ AnAt hdR u.heap.size u' bk va (An.start room 1) ∧ Below u.heap.size u u') (fun v u' h => ?_)⟩
      · simp [Act.eval, d, go_sem]
      · obtain ⟨bk, va, rfl, h2, h3⟩ := h
        refine ⟨⟨hI.1.trans (h3.mono hsz), (size_put _ _ _).trans hI.2.1, fun _ k4 => ?_⟩, ⟨bk, va, rfl, an_weaken h2 hsz⟩, fun j x _ h => poolF_on _ _ _ j x u _ h h3⟩
        have c4 : come 4 := k4.resolve_left (by decide)
        obtain ⟨g, e1, e2, e3⟩ := hnew 4 20 c4 (by kernel_rfl)
        refine ⟨bk, va, g, getD_put_same _ _ _ (by rw [hI.2.1]; decide), ?_, an_weaken h2 hsz, e2.of_block (h3.block g e2.lt), e3, fun hx => ?_⟩
        · rw [getD_put_other _ _ _ _ (by decide)]; exact e1
        · have := (h2.lt g hx).1
          have := e2.lt
          omega
    | 3, ho =>
      obtain rfl := Option.some.inj ho
      have d1 : bx.tmps.getD 0 undef = .int .i64 (room : Int) := hold 0 (base_of (by kernel_rfl))
      refine .inl ⟨rfl, yieldsY_value (v := .int .i64 (room : Int)) (u' := u) ?_ ⟨poolI_on hI (Below.refl _ _) _ (by decide) (by decide) (by decide) (by decide), rfl, fun _ _ _ h => h⟩⟩
      simp [execOp, Act.eval, d1]
    | 4, ho =>
      obtain rfl := Option.some.inj ho
      have d : bx.tmps.getD 19 undef = .int .i64 (room : Int) := hnew 3 19 (hr 3 (by kernel_rfl)) (by kernel_rfl)
      have hm := make_run room (by have := HR.out; omega) u
      have hb : Below u.heap.size u (u.alloc (.cells (madeCells #[.int .i64 0] room) 3)) := (Below.refl _ _).alloc (Nat.le_refl _) _
      refine .inl ⟨rfl, yieldsY_value (v := .slice (some ⟨u.heap.size, 0, none⟩) room room) (u' := u.alloc (.cells (madeCells #[.int .i64 0] room) 3)) ?_ ⟨⟨hI.1.trans (hb.mono hsz), (size_put _ _ _).trans hI.2.1, fun k2 _ => ?_⟩, ⟨_, rfl, made_lst u room, hsz⟩, fun j x _ h => poolF_on _ _ _ j x u _ h hb⟩⟩
      · simp [Act.eval, d, execOp, hm]
      · have c2 : come 2 := k2.resolve_left (by decide)
        obtain ⟨bk, va, e1, e2⟩ := hnew 2 18 c2 (by kernel_rfl)
        refine ⟨bk, va, u.heap.size, ?_, getD_put_same _ _ _ (by rw [hI.2.1]; decide), e2.on hb, made_lst u room, hsz, fun hx => ?_⟩
        · rw [getD_put_other _ _ _ _ (by decide)]; exact e1
        · have := (e2.lt _ hx).2
          omega
    | 5, ho =>
      obtain rfl := Option.some.inj ho
      have d1 : bx.tmps.getD 0 undef = .int .i64 (room : Int) := hold 0 (base_of (by kernel_rfl))
      refine .inl ⟨rfl, yieldsY_value (v := .int .i64 (room : Int)) (u' := u) ?_ ⟨poolI_on hI (Below.refl _ _) _ (by decide) (by decide) (by decide) (by decide), rfl, fun _ _ _ h => h⟩⟩
      simp [execOp, Act.eval, d1]
    | 6, ho =>
      obtain rfl := Option.some.inj ho
      have d16 : bx.tmps[16]?.getD undef = .string key := by rw [← Array.getD_eq_getD_getElem?]; exact hnew 0 16 (hr 0 (by kernel_rfl)) (by kernel_rfl)
      have d21 : bx.tmps[21]?.getD undef = .int .i64 (room : Int) := by rw [← Array.getD_eq_getD_getElem?]; exact hnew 5 21 (hr 5 (by kernel_rfl)) (by kernel_rfl)
      obtain ⟨bk, va, g, e1, e2, e3, e4, e5, e6⟩ := hI.2.2 (hr 2 (by kernel_rfl)) (hr 4 (by kernel_rfl))
      have d18 : bx.tmps[18]?.getD undef = .pointer (some ⟨bk.p, 0, none⟩) := by rw [← Array.getD_eq_getD_getElem?]; exact e1
      have d20 : bx.tmps[20]?.getD undef = .slice (some ⟨g, 0, none⟩) room room := by rw [← Array.getD_eq_getD_getElem?]; exact e2
      refine .inl ⟨rfl, yieldsY_value (v := .agg #[.string key, .pointer (some ⟨bk.p, 0, none⟩), .slice none 0 0, .slice (some ⟨g, 0, none⟩) room room, .int .i64 (room : Int)]) (u' := u) ?_ ⟨poolI_on hI (Below.refl _ _) _ (by decide) (by decide) (by decide) (by decide), ⟨bk, va, g, rfl, e3, e4, e5, e6⟩, fun _ _ _ h => h⟩⟩
      simp [Act.eval, d16, d18, d20, d21, go_sem]
    | 7, ho =>
      obtain rfl := Option.some.inj ho
      obtain ⟨bk, va, g, e1, e3, e4, e5, e6⟩ := hnew 6 22 (hr 6 (by kernel_rfl)) (by kernel_rfl)
      have hb : Below u.heap.size u (u.alloc (.cells #[.string key, .pointer (some ⟨bk.p, 0, none⟩), .slice none 0 0, .slice (some ⟨g, 0, none⟩) room room, .int .i64 (room : Int)] 46)) := (Below.refl _ _).alloc (Nat.le_refl _) _
      refine .inl ⟨rfl, yieldsY_value (v := .pointer (some ⟨u.heap.size, 0, none⟩)) (u' := u.alloc (.cells #[.string key, .pointer (some ⟨bk.p, 0, none⟩), .slice none 0 0, .slice (some ⟨g, 0, none⟩) room room, .int .i64 (room : Int)] 46)) ?_ ⟨poolI_on hI hb _ (by decide) (by decide) (by decide) (by decide), ⟨⟨u.heap.size, bk, g, room⟩, va, rfl, pool_made e3 e4 e5 e6 hsz _⟩, fun j x _ h => poolF_on _ _ _ j x u _ h hb⟩⟩
      simp [Act.eval, e1, go_sem]
    | 8, ho =>
      obtain rfl := Option.some.inj ho
      obtain ⟨b, va, e1, e2⟩ := hnew 7 23 (hr 7 (by kernel_rfl)) (by kernel_rfl)
      refine .inl ⟨rfl, yieldsY_value (v := .pointer (some ⟨b.p, 0, none⟩)) (u' := u) ?_ ⟨poolI_on hI (Below.refl _ _) _ (by decide) (by decide) (by decide) (by decide), ⟨b, va, rfl, e2⟩, fun _ _ _ h => h⟩⟩
      simp [execOp, Act.eval, e1]
    | n + 9, ho => exact absurd ho (by simp)
  case fin =>
    intro xs u hxs hI hF
    have HB1 : Shut (Below w.heap.size w.drew u) := ⟨hI.1⟩
    clear hI
    obtain ⟨x0, x1, x2, x3, x4, x5, x6, x7, x8, rfl⟩ := list9 (l := xs) hxs
    obtain ⟨b, va, rfl, hA⟩ : ∃ (b : RBk) (va : Value), x8 = .pointer (some ⟨b.p, 0, none⟩) ∧ RAt w.heap.size u key room b va (.slice none 0 0) (An.start room 1) [] (fun _ => 0) := hF 8 4 (by decide) (by kernel_rfl)
    have HX : Shut _ := ⟨hA⟩
    clear hF hxs hA
    simp [putAll, dstAt, Act.put]
    have HB : Shut (Below w.heap.size w u) := ⟨⟨HB1.out.os, HB1.out.tape, HB1.out.output, HB1.out.size, HB1.out.block⟩⟩
    clear HB1
    go_wp2_with fail
    go_ret
    exact ⟨b, va, rfl, HX.out, HB.out⟩
end
end Go.Proofs.Ytckkdgifjgkoaaa
