/- A list of deeds that came in as an argument; does, whatever the deed. -/
import Derived.Test.YtckkdgifjgkoaaaPqDoes
namespace Go.Proofs.Ytckkdgifjgkoaaa
open Go.ChangeShapes Go.WideShapes Go.ChangeAt Go.RowKit Go.Maps An Sp
/-- What lies at a deed's place. -/
structure DeedAt (W : World) (a : Addr) (d : Deed) : Prop where
  c0 : W.cell? (a.add 0) = some (.int .i64 d.kind)
  c1 : W.cell? (a.add 1) = some (.int .i64 d.id)
  c2 : W.cell? (a.add 2) = some (.int .u32 d.addr)
  c3 : W.cell? (a.add 3) = some (.int .i64 d.port)
  c4 : W.cell? (a.add 4) = some (.int .i64 d.t.proto)
  c5 : W.cell? (a.add 5) = some (.int .u32 d.t.src)
  c6 : W.cell? (a.add 6) = some (.int .u32 d.t.dst)
  c7 : W.cell? (a.add 7) = some (.int .i64 d.t.sport)
  c8 : W.cell? (a.add 8) = some (.int .i64 d.t.dport)
  wf : d.Wf
theorem DeedAt.on {W W' : World} {a : Addr} {d : Deed} (h : DeedAt W a d) (hb : Below W.heap.size W W') : DeedAt W' a d := by
  have go : ∀ {i : Nat} {v : Value}, W.cell? (a.add i) = some v → W'.cell? (a.add i) = some v := fun h => (hb.cell (block_lt_of_cell h)).trans h
  exact ⟨go h.c0, go h.c1, go h.c2, go h.c3, go h.c4, go h.c5, go h.c6, go h.c7, go h.c8, h.wf⟩
/-- The deeds that came in: none, or a row of them. -/
def IsDeeds (W : World) (a : Option Addr) (len cap : Nat) : Prop :=
  (a = none ∧ len = 0 ∧ cap = 0) ∨ ∃ x, a = some x ∧ len ≤ cap ∧ ∀ i, i < len → ∃ d, DeedAt W (x.add (i * 9)) d
theorem IsDeeds.get {W : World} {a : Option Addr} {len cap : Nat} (h : IsDeeds W a len cap) (i : Nat) (hi : i < len) : ∃ x d, a = some x ∧ DeedAt W (x.add (i * 9)) d := by
  rcases h with ⟨_, h, _⟩ | ⟨x, h1, _, h3⟩
  · omega
  · obtain ⟨d, hd⟩ := h3 i hi
    exact ⟨x, d, h1, hd⟩
theorem IsDeeds.on {W W' : World} {a : Option Addr} {len cap : Nat} (h : IsDeeds W a len cap) (hb : Below W.heap.size W W') : IsDeeds W' a len cap := by
  rcases h with h | ⟨x, h1, h2, h3⟩
  · exact .inl h
  · exact .inr ⟨x, h1, h2, fun i hi => by obtain ⟨d, hd⟩ := h3 i hi; exact ⟨d, hd.on hb⟩⟩
theorem cells_int : Try.prog.cellsOf 3 = 1 := by kernel_rfl
theorem cells_uint32 : Try.prog.cellsOf 31 = 1 := by kernel_rfl
theorem cells_back : Try.prog.cellsOf 33 = 3 := by kernel_rfl
theorem cells_tuple : Try.prog.cellsOf 35 = 5 := by kernel_rfl
theorem cells_deed : Try.prog.cellsOf 37 = 9 := by kernel_rfl
theorem list3 {α : Type} {l : List α} (h : l.length = 3) : ∃ c0 c1 c2, l = [c0, c1, c2] := by
  match l, h with
  | [c0, c1, c2], _ => exact ⟨c0, c1, c2, rfl⟩
theorem list5 {α : Type} {l : List α} (h : l.length = 5) : ∃ c0 c1 c2 c3 c4, l = [c0, c1, c2, c3, c4] := by
  match l, h with
  | [c0, c1, c2, c3, c4], _ => exact ⟨c0, c1, c2, c3, c4, rfl⟩
theorem list9c {α : Type} {l : List α} (h : l.length = 9) : ∃ c0 c1 c2 c3 c4 c5 c6 c7 c8, l = [c0, c1, c2, c3, c4, c5, c6, c7, c8] := by
  match l, h with
  | [c0, c1, c2, c3, c4, c5, c6, c7, c8], _ => exact ⟨c0, c1, c2, c3, c4, c5, c6, c7, c8, rfl⟩
section
variable {H : Type} {enc : TypeId × Value → H} {w : World} {base : Nat} {spare : Nat → Bool} {held : Bool}
theorem open_back {m : Nat} {c0 c1 c2 : Value} {x : DataW H × List MemPlace} (ht : DataW.trod enc Try.prog w base spare held m 33 [c0, c1, c2] = some x) :
    ∃ a0 a1 a2, c0 = .int .i64 a0 ∧ c1 = .int .u32 a1 ∧ c2 = .int .i64 a2 ∧ (Lit.int .i64 a0).wf = true ∧ (Lit.int .u32 a1).wf = true ∧ (Lit.int .i64 a2).wf = true := by
  obtain ⟨xs, m, _, _, _, hx3, hf⟩ := DataW.trod_struct Try.underlying33 ht
  obtain ⟨y0, y1, y2, rfl⟩ := list3 hx3
  have t0 : DataW.trod enc Try.prog w base spare held m 3 [c0] = some y0 := by have := hf 0 _ rfl; simpa [cells_int] using this
  have t1 : DataW.trod enc Try.prog w base spare held m 31 [c1] = some y1 := by have := hf 1 _ rfl; simpa [cells_uint32] using this
  have t2 : DataW.trod enc Try.prog w base spare held m 3 [c2] = some y2 := by have := hf 2 _ rfl; simpa [cells_int] using this
  obtain ⟨a0, e0, _, w0⟩ := DataW.trod_int Try.underlying3 t0
  obtain ⟨a1, e1, _, w1⟩ := DataW.trod_int Try.underlying31 t1
  obtain ⟨a2, e2, _, w2⟩ := DataW.trod_int Try.underlying3 t2
  exact ⟨a0, a1, a2, (List.cons.inj e0).1, (List.cons.inj e1).1, (List.cons.inj e2).1, w0, w1, w2⟩
theorem open_tuple {m : Nat} {c0 c1 c2 c3 c4 : Value} {x : DataW H × List MemPlace} (ht : DataW.trod enc Try.prog w base spare held m 35 [c0, c1, c2, c3, c4] = some x) :
    ∃ a0 a1 a2 a3 a4, c0 = .int .i64 a0 ∧ c1 = .int .u32 a1 ∧ c2 = .int .u32 a2 ∧ c3 = .int .i64 a3 ∧ c4 = .int .i64 a4 ∧ (Lit.int .u32 a1).wf = true ∧ (Lit.int .u32 a2).wf = true := by
  obtain ⟨xs, m, _, _, _, hx3, hf⟩ := DataW.trod_struct Try.underlying35 ht
  obtain ⟨y0, y1, y2, y3, y4, rfl⟩ := list5 hx3
  have t0 : DataW.trod enc Try.prog w base spare held m 3 [c0] = some y0 := by have := hf 0 _ rfl; simpa [cells_int] using this
  have t1 : DataW.trod enc Try.prog w base spare held m 31 [c1] = some y1 := by have := hf 1 _ rfl; simpa [cells_uint32] using this
  have t2 : DataW.trod enc Try.prog w base spare held m 31 [c2] = some y2 := by have := hf 2 _ rfl; simpa [cells_uint32] using this
  have t3 : DataW.trod enc Try.prog w base spare held m 3 [c3] = some y3 := by have := hf 3 _ rfl; simpa [cells_int] using this
  have t4 : DataW.trod enc Try.prog w base spare held m 3 [c4] = some y4 := by have := hf 4 _ rfl; simpa [cells_int] using this
  obtain ⟨a0, e0, _, w0⟩ := DataW.trod_int Try.underlying3 t0
  obtain ⟨a1, e1, _, w1⟩ := DataW.trod_int Try.underlying31 t1
  obtain ⟨a2, e2, _, w2⟩ := DataW.trod_int Try.underlying31 t2
  obtain ⟨a3, e3, _, w3⟩ := DataW.trod_int Try.underlying3 t3
  obtain ⟨a4, e4, _, w4⟩ := DataW.trod_int Try.underlying3 t4
  exact ⟨a0, a1, a2, a3, a4, (List.cons.inj e0).1, (List.cons.inj e1).1, (List.cons.inj e2).1, (List.cons.inj e3).1, (List.cons.inj e4).1, w1, w2⟩
theorem open_deeds {fuel : Nat} {a : Option Addr} {len cap : Nat} {x : DataW H × List MemPlace}
    (h : DataW.trod enc Try.prog w base spare held fuel 22 [.slice a len cap] = some x) : IsDeeds w a len cap := by
  rcases DataW.trod_slice Try.underlying22 h with ⟨h0, _⟩ | ⟨y, l, c, elems, rest, n, _, hcs, _, hb, hl, hm, hlen, hel, _, _⟩
  · cases h0
    exact .inl ⟨rfl, rfl, rfl⟩
  · cases hcs
    refine .inr ⟨y, rfl, hl, fun i hi => ?_⟩
    have e := hel i hi
    rw [List.getElem?_eq_getElem (by omega), Option.bind_eq_some_iff, cells_deed] at e
    obtain ⟨cs, hcs, ht⟩ := e
    obtain ⟨_, h3, hc⟩ := World.cells?_some hcs
    obtain ⟨c0, c1, c2, c3, c4, c5, c6, c7, c8, rfl⟩ := list9c h3
    obtain ⟨xs, m, _, _, _, hx3, hf⟩ := DataW.trod_struct Try.underlying37 ht
    obtain ⟨y0, y1, y2, rfl⟩ := list3 hx3
    have t0 : DataW.trod enc Try.prog w base spare held m 3 [c0] = some y0 := by have := hf 0 _ rfl; simpa [cells_int] using this
    have t1 : DataW.trod enc Try.prog w base spare held m 33 [c1, c2, c3] = some y1 := by have := hf 1 _ rfl; simpa [cells_int, cells_back] using this
    have t2 : DataW.trod enc Try.prog w base spare held m 35 [c4, c5, c6, c7, c8] = some y2 := by have := hf 2 _ rfl; simpa [cells_int, cells_back, cells_tuple] using this
    obtain ⟨a0, e0, _, w0⟩ := DataW.trod_int Try.underlying3 t0
    obtain rfl := List.cons.inj e0 |>.1
    obtain ⟨a1, a2, a3, rfl, rfl, rfl, w1, w2, w3⟩ := open_back t1
    obtain ⟨a4, a5, a6, a7, a8, rfl, rfl, rfl, rfl, rfl, w5, w6⟩ := open_tuple t2
    have b2 := u32_bounds w2
    exact ⟨⟨a0, a1, a2, a3, ⟨a4, a5, a6, a7, a8⟩⟩, hc 0 (by decide), hc 1 (by decide), hc 2 (by decide), hc 3 (by decide), hc 4 (by decide), hc 5 (by decide), hc 6 (by decide), hc 7 (by decide), hc 8 (by decide), ⟨i64_bounds w0, i64_bounds w1, b2.1, ⟨u32_bounds w5, u32_bounds w6⟩⟩⟩
end
section
variable {w W : World} {base base' room : Nat} {fx : List (Nat × Obj)} {b : QBk} {v : Value} {c : RBk} {u uL : Value} {p : Pl}
theorem does_any (hP : Pair w base base' room fx W b v c u uL p p) (h1 : 1 ≤ room) (d : Deed) (hd : d.Wf) :
    Calls Try.prog 11 #[.pointer (some ⟨b.p, 0, none⟩), .pointer (some ⟨c.p, 0, none⟩), .agg #[.int .i64 d.kind, .int .i64 d.id, .int .u32 d.addr, .int .i64 d.port, .int .i64 d.t.proto, .int .u32 d.t.src, .int .u32 d.t.dst, .int .i64 d.t.sport, .int .i64 d.t.dport]] W fun e w' => e = .returned (.bool true) ∧ ∃ v' u' uL' p', Pair w base base' room fx w' b v' c u' uL' p' p' := by
  obtain ⟨kind, id, addr, port, t0, t1, t2, t3, t4⟩ := d
  obtain ⟨hk, hi, ha, ht⟩ := hd
  have hk1 : -9223372036854775808 ≤ kind := hk.1
  have hk2 : kind ≤ 9223372036854775807 := hk.2
  by_cases hs : kind < 0
  · obtain ⟨K, hK⟩ : ∃ K, -(kind + 1) = K := ⟨_, rfl⟩
    have r1 : 0 ≤ K.tmod 7 := Int.tmod_nonneg 7 (by omega)
    have r2 : K.tmod 7 < 7 := Int.tmod_lt_of_pos K (by decide)
    by_cases q0 : K.tmod 7 = 0
    · exact does_n0 hP h1 kind id addr port t0 t1 t2 t3 t4 hk1 hk2 hi ha ht K hs hK q0
    by_cases q1 : K.tmod 7 = 1
    · exact does_n1 hP h1 kind id addr port t0 t1 t2 t3 t4 hk1 hk2 hi ha ht K hs hK q1
    by_cases q2 : K.tmod 7 = 2
    · exact does_n2 hP h1 kind id addr port t0 t1 t2 t3 t4 hk1 hk2 hi ha ht K hs hK q2
    by_cases q3 : K.tmod 7 = 3
    · exact does_n3 hP h1 kind id addr port t0 t1 t2 t3 t4 hk1 hk2 hi ha ht K hs hK q3
    by_cases q6 : K.tmod 7 = 6
    · exact does_n6 hP h1 kind id addr port t0 t1 t2 t3 t4 hk1 hk2 hi ha ht K hs hK q6
    exact does_nd hP h1 kind id addr port t0 t1 t2 t3 t4 hk1 hk2 hi ha ht K hs hK _ rfl (by simpa using q0) (by simpa using q1) (by simpa using q2) (by simpa using q3) (by simpa using q6)
  · by_cases q0 : kind.tmod 7 = 0
    · exact does_p0 hP h1 kind id addr port t0 t1 t2 t3 t4 hk1 hk2 hi ha ht hs q0
    by_cases q1 : kind.tmod 7 = 1
    · exact does_p1 hP h1 kind id addr port t0 t1 t2 t3 t4 hk1 hk2 hi ha ht hs q1
    by_cases q2 : kind.tmod 7 = 2
    · exact does_p2 hP h1 kind id addr port t0 t1 t2 t3 t4 hk1 hk2 hi ha ht hs q2
    by_cases q3 : kind.tmod 7 = 3
    · exact does_p3 hP h1 kind id addr port t0 t1 t2 t3 t4 hk1 hk2 hi ha ht hs q3
    by_cases q6 : kind.tmod 7 = 6
    · exact does_p6 hP h1 kind id addr port t0 t1 t2 t3 t4 hk1 hk2 hi ha ht hs q6
    exact does_pd hP h1 kind id addr port t0 t1 t2 t3 t4 hk1 hk2 hi ha ht hs _ rfl (by simpa using q0) (by simpa using q1) (by simpa using q2) (by simpa using q3) (by simpa using q6)
end
end Go.Proofs.Ytckkdgifjgkoaaa
