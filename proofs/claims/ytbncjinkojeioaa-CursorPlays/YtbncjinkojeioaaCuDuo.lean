/- A list of deeds that came in as an argument; the program's cursor and the reference's, apart from each other. -/
import Derived.Test.YtbncjinkojeioaaCuMap
import Derived.Test.YtbncjinkojeioaaCuReg
import Derived.OpenShut
import Derived.SizedLaws
import Derived.Shelf.Abstract
namespace Go.Proofs.Ytbncjinkojeioaa
open Go.ChangeShapes Go.WideShapes Go.ChangeAt Go.RowKit Sp Cu

theorem i64_bounds {n : Int} (h : (Lit.int .i64 n).wf = true) : -9223372036854775808 ≤ n ∧ n ≤ 9223372036854775807 := by simpa [Lit.wf, IntKind.min, IntKind.max, IntKind.signed, IntKind.bits] using h
structure Deed where
  kind : Int
  i : Int
def Deed.Wf (d : Deed) : Prop := (-9223372036854775808 ≤ d.kind ∧ d.kind ≤ 9223372036854775807) ∧ (-9223372036854775808 ≤ d.i ∧ d.i ≤ 9223372036854775807)
/-- What lies at a deed's place. -/
structure DeedAt (W : World) (a : Addr) (d : Deed) : Prop where
  c0 : W.cell? (a.add 0) = some (.int .i64 d.kind)
  c1 : W.cell? (a.add 1) = some (.int .i64 d.i)
  wf : d.Wf
theorem DeedAt.on {W W' : World} {a : Addr} {d : Deed} (h : DeedAt W a d) (hb : Below W.heap.size W W') : DeedAt W' a d :=
  ⟨(hb.cell (block_lt_of_cell h.c0)).trans h.c0, (hb.cell (block_lt_of_cell h.c1)).trans h.c1, h.wf⟩
/-- The deeds that came in: none, or a row of them. -/
def IsDeeds (W : World) (a : Option Addr) (len cap : Nat) : Prop :=
  (a = none ∧ len = 0 ∧ cap = 0) ∨ ∃ x, a = some x ∧ len ≤ cap ∧ ∀ i, i < len → ∃ d, DeedAt W (x.add (i * 2)) d
theorem IsDeeds.get {W : World} {a : Option Addr} {len cap : Nat} (h : IsDeeds W a len cap) (i : Nat) (hi : i < len) : ∃ x d, a = some x ∧ DeedAt W (x.add (i * 2)) d := by
  rcases h with ⟨_, h, _⟩ | ⟨x, h1, _, h3⟩
  · omega
  · obtain ⟨d, hd⟩ := h3 i hi
    exact ⟨x, d, h1, hd⟩
theorem IsDeeds.on {W W' : World} {a : Option Addr} {len cap : Nat} (h : IsDeeds W a len cap) (hb : Below W.heap.size W W') : IsDeeds W' a len cap := by
  rcases h with h | ⟨x, h1, h2, h3⟩
  · exact .inl h
  · exact .inr ⟨x, h1, h2, fun i hi => by obtain ⟨d, hd⟩ := h3 i hi; exact ⟨d, hd.on hb⟩⟩
theorem cells_int : Try.prog.cellsOf 3 = 1 := by kernel_rfl
theorem cells_deed : Try.prog.cellsOf 31 = 2 := by kernel_rfl
theorem list2 {α : Type} {l : List α} (h : l.length = 2) : ∃ c0 c1, l = [c0, c1] := by
  match l, h with
  | [c0, c1], _ => exact ⟨c0, c1, rfl⟩
theorem open_deeds {H : Type} {enc : TypeId × Value → H} {w : World} {base : Nat} {spare : Nat → Bool} {held : Bool} {fuel : Nat} {a : Option Addr} {len cap : Nat} {x : DataW H × List MemPlace}
    (h : DataW.trod enc Try.prog w base spare held fuel 22 [.slice a len cap] = some x) : IsDeeds w a len cap := by
  rcases DataW.trod_slice Try.underlying22 h with ⟨h0, _⟩ | ⟨y, l, c, elems, rest, n, _, hcs, _, hb, hl, hm, hlen, hel, _, _⟩
  · cases h0
    exact .inl ⟨rfl, rfl, rfl⟩
  · cases hcs
    refine .inr ⟨y, rfl, hl, fun i hi => ?_⟩
    have e := hel i hi
    rw [List.getElem?_eq_getElem (by omega), Option.bind_eq_some_iff, cells_deed] at e
    obtain ⟨cs, hcs, ht⟩ := e
    obtain ⟨_, h3, hc⟩ := World.cells?_some hcs
    obtain ⟨c0, c1, rfl⟩ := list2 h3
    obtain ⟨xs, m, _, _, _, hx3, hf⟩ := DataW.trod_struct Try.underlying31 ht
    obtain ⟨y0, y1, rfl⟩ := list2 hx3
    have t0 : DataW.trod enc Try.prog w base spare held m 3 [c0] = some y0 := by have := hf 0 _ rfl; simpa [cells_int] using this
    have t1 : DataW.trod enc Try.prog w base spare held m 3 [c1] = some y1 := by have := hf 1 _ rfl; simpa [cells_int] using this
    obtain ⟨a0, e0, _, w0⟩ := DataW.trod_int Try.underlying3 t0
    obtain ⟨a1, e1, _, w1⟩ := DataW.trod_int Try.underlying3 t1
    obtain rfl := List.cons.inj e0 |>.1
    obtain rfl := List.cons.inj e1 |>.1
    exact ⟨⟨a0, a1⟩, hc 0 (by decide), hc 1 (by decide), i64_bounds w0, i64_bounds w1⟩

/-- The program's cursor stands at s, the reference's at t, apart from each other and from the rows L. -/
structure Duo (w W : World) (p q g : Nat) (s t : Cu) (L : List (Nat × List Value)) : Prop where
  h : ∃ v ws, CurP w.heap.size W p v ws s ∧ q ∉ feet p v ∧ g ∉ feet p v ∧ ∀ r ∈ L, r.1 ∉ feet p v
  ref : RefP w.heap.size W q g t
  wft : WF t
  rows : ∀ r ∈ L, Row W r.1 r.2 ∧ r.1 ≠ q ∧ r.1 ≠ g
  below : Below w.heap.size w W
section
variable {w W W' : World} {p q g : Nat} {s s' t t' : Cu} {L : List (Nat × List Value)}
theorem Duo.on (h : Duo w W p q g s t L) (hb : Below W.heap.size W W') : Duo w W' p q g s t L := by
  obtain ⟨v, ws, h1, h2⟩ := h.h
  exact ⟨⟨v, ws, h1.on hb, h2⟩, RefAt.on h.ref hb, h.wft, fun r hr => ⟨(h.rows r hr).1.on' hb, (h.rows r hr).2⟩, Below.then h.below hb⟩
theorem Duo.drew (h : Duo w W p q g s t L) : Duo w W.drew p q g s t L := h.on (Below.refl _ _).drew
theorem Duo.less (h : Duo w W p q g s t L) {M : List (Nat × List Value)} (hM : ∀ r ∈ M, r ∈ L) : Duo w W p q g s t M := by
  obtain ⟨v, ws, h1, h2, h3, h4⟩ := h.h
  exact ⟨⟨v, ws, h1, h2, h3, fun r hr => h4 r (hM r hr)⟩, h.ref, h.wft, fun r hr => h.rows r (hM r hr), h.below⟩
theorem Duo.wf (h : Duo w W p q g s t L) : WF s := by obtain ⟨v, ws, h1, _⟩ := h.h; exact h1.wf
theorem Duo.step (h : Duo w W p q g s t L) {v v' : Value} {ws ws' : List B} (h1 : CurP w.heap.size W p v ws s) (hq : q ∉ feet p v) (hg : g ∉ feet p v) (hL : ∀ r ∈ L, r.1 ∉ feet p v) (hc : CurP w.heap.size W' p v' ws' s') (hw : Went W W' p v v') : Duo w W' p q g s' t L := by
  have off : ∀ x, x < W.heap.size → x ∉ feet p v → x ∉ feet p v' := fun x hx hn hm => by
    rcases hw.feet x hm with h2 | h2
    · exact hn h2
    · omega
  refine ⟨⟨v', ws', hc, off q h.ref.head.lt hq, off g h.ref.list.lt hg, fun r hr => off r.1 (h.rows r hr).1.lt (hL r hr)⟩, RefAt.but h.ref hw.but hq hg, h.wft, fun r hr => ⟨(h.rows r hr).1.but hw.but (hL r hr), (h.rows r hr).2⟩, hw.below h.below h1.lies (Nat.le_refl _)⟩
theorem Duo.rstep (h : Duo w W p q g s t L) (hr : RefP w.heap.size W' q g t') (ht : WF t') (hb : But [q, g] W W') : Duo w W' p q g s t' L := by
  obtain ⟨v, ws, h1, h2, h3, h4⟩ := h.h
  have ne : ∀ x, x ≠ q → x ≠ g → x ∉ [q, g] := fun x n1 n2 hx => by
    simp only [List.mem_cons, List.not_mem_nil, or_false] at hx
    omega
  refine ⟨⟨v, ws, h1.but hb fun x hx => ne x (fun e => h2 (e ▸ hx)) (fun e => h3 (e ▸ hx)), h2, h3, h4⟩, hr, ht, fun r hr => ⟨(h.rows r hr).1.but hb (ne _ (h.rows r hr).2.1 (h.rows r hr).2.2), (h.rows r hr).2⟩, hb.below h.below fun x hx => ?_⟩
  simp only [List.mem_cons, List.not_mem_nil, or_false] at hx
  rcases hx with rfl | rfl
  · exact h.ref.geq
  · exact h.ref.geg
theorem Duo.take (h : Duo w W p q g s t L) {k : Nat} {b : Bool} (hT : Tk s k b s') :
    Calls Try.prog 14 #[.pointer (some ⟨p, 0, none⟩)] W fun e w' => e = .returned (.tuple #[.int .i64 (k : Int), .bool b]) ∧ Duo w w' p q g s' t L := by
  obtain ⟨v, ws, h1, h2, h3, h4⟩ := h.h
  refine (take_any h1 hT).mono ?_
  rintro e w' ⟨rfl, v', ws', h5, h6⟩
  exact ⟨rfl, h.step h1 h2 h3 h4 h5 h6⟩
theorem Duo.rtake (h : Duo w W p q g s t L) {k : Nat} {b : Bool} (hT : Tk t k b t') :
    Calls Try.prog 15 #[.pointer (some ⟨q, 0, none⟩)] W fun e w' => e = .returned (.tuple #[.int .i64 (k : Int), .bool b]) ∧ Duo w w' p q g s t' L := by
  refine (rtake_any h.ref h.wft hT).mono ?_
  rintro e w' ⟨rfl, h1, h2⟩
  exact ⟨rfl, h.rstep h1 (hT.wf h.wft) h2⟩
theorem Duo.free (h : Duo w W p q g s t L) (x : Int) :
    Calls Try.prog 10 #[.pointer (some ⟨p, 0, none⟩), .int .i64 x] W fun e w' => e = .returned (.bool (s.has x)) ∧ Duo w w' p q g (s.free x) t L := by
  obtain ⟨v, ws, h1, h2, h3, h4⟩ := h.h
  refine (free_any h1 x).mono ?_
  rintro e w' ⟨rfl, ws', h5, h6⟩
  exact ⟨rfl, h.step h1 h2 h3 h4 h5 h6⟩
theorem Duo.rfree (h : Duo w W p q g s t L) (x : Int) :
    Calls Try.prog 11 #[.pointer (some ⟨q, 0, none⟩), .int .i64 x] W fun e w' => e = .returned (.bool (t.has x)) ∧ Duo w w' p q g s (t.free x) L := by
  refine (rfree_any h.ref h.wft x).mono ?_
  rintro e w' ⟨rfl, h1, h2⟩
  exact ⟨rfl, h.rstep h1 (h.wft.free x) h2⟩
theorem Duo.used (h : Duo w W p q g s t L) (x : Int) :
    Calls Try.prog 12 #[.pointer (some ⟨p, 0, none⟩), .int .i64 x] W fun e w' => e = .returned (.bool (s.has x)) ∧ w' = W := by
  obtain ⟨v, ws, h1, _⟩ := h.h
  exact used_has h1 x
theorem Duo.has (h : Duo w W p q g s t L) (x : Int) :
    Calls Try.prog 13 #[.pointer (some ⟨q, 0, none⟩), .int .i64 x] W fun e w' => e = .returned (.bool (t.has x)) ∧ w' = W := rhas_any h.ref h.wft x
theorem Duo.len (h : Duo w W p q g s t L) :
    Calls Try.prog 16 #[.pointer (some ⟨p, 0, none⟩)] W fun e w' => e = .returned (.int .i64 (s.many : Int)) ∧ w' = W := by
  obtain ⟨v, ws, h1, _⟩ := h.h
  exact len_many h1
theorem Duo.rlen (h : Duo w W p q g s t L) :
    Calls Try.prog 17 #[.pointer (some ⟨q, 0, none⟩)] W fun e w' => e = .returned (.int .i64 (t.many : Int)) ∧ w' = W := rlen_any h.ref h.wft
/-- A variable more. -/
theorem Duo.box (h : Duo w W p q g s t L) (l : List Value) (ty : TypeId) : Duo w (W.alloc (.cells l.toArray ty)) p q g s t ((W.heap.size, l) :: L) := by
  have hb : Below W.heap.size W (W.alloc (.cells l.toArray ty)) := (Below.refl _ _).alloc (Nat.le_refl _) _
  have h0 := h.on hb
  obtain ⟨v, ws, h1, h2, h3, h4⟩ := h.h
  have hq := h.ref.head.lt
  have hg := h.ref.list.lt
  refine ⟨⟨v, ws, h1.on hb, h2, h3, fun r hr => ?_⟩, h0.ref, h0.wft, fun r hr => ?_, h0.below⟩
  · rcases List.mem_cons.1 hr with rfl | hr
    · exact fun hx => by have := (h1.lies.lt _ hx).2; omega
    · exact h4 r hr
  · rcases List.mem_cons.1 hr with rfl | hr
    · exact ⟨row_new W l ty, by show W.heap.size ≠ q; omega, by show W.heap.size ≠ g; omega⟩
    · exact h0.rows r hr
end
theorem duo_new {w w2 w3 : World} {p q g n : Nat} (h1 : Cur w w2 p (newCu n)) (h2 : RefP w2.heap.size w3 q g (newCu n)) (h3 : Below w2.heap.size w2 w3) (hw : WF (newCu n)) : Duo w w3 p q g (newCu n) (newCu n) [] := by
  obtain ⟨v, ws, h4⟩ := h1.lies
  have hsz := h1.below.size
  have hq := h2.geq
  have hg := h2.geg
  refine ⟨⟨v, ws, h4.on h3, fun hx => ?_, fun hx => ?_, fun r hr => absurd hr (List.not_mem_nil)⟩, ⟨h2.head, h2.list, h2.ne, by omega, by omega⟩, hw, fun r hr => absurd hr (List.not_mem_nil), Below.then h1.below h3⟩
  · have := (h4.lies.lt _ hx).2; omega
  · have := (h4.lies.lt _ hx).2; omega
end Go.Proofs.Ytbncjinkojeioaa
