/- A list of deeds that came in as an argument. -/
import Derived.Test.YtmmaglhilghofaaAnCnt
import Derived.OpenShut
import Derived.SizedLaws
namespace Go.Proofs.Ytmmaglhilghofaa
open Go.ChangeShapes Go.WideShapes Go.ChangeAt Go.RowKit An

structure Deed where
  kind : Int
  b : Int
  k : Int
def Deed.Wf (d : Deed) : Prop := (-9223372036854775808 ≤ d.kind ∧ d.kind ≤ 9223372036854775807) ∧ (-9223372036854775808 ≤ d.b ∧ d.b ≤ 9223372036854775807) ∧ (0 ≤ d.k ∧ d.k ≤ 18446744073709551615)
/-- What lies at a deed's place. -/
structure DeedAt (W : World) (a : Addr) (d : Deed) : Prop where
  c0 : W.cell? (a.add 0) = some (.int .i64 d.kind)
  c1 : W.cell? (a.add 1) = some (.int .i64 d.b)
  c2 : W.cell? (a.add 2) = some (.int .u64 d.k)
  wf : d.Wf
theorem DeedAt.on {W W' : World} {a : Addr} {d : Deed} (h : DeedAt W a d) (hb : Below W.heap.size W W') : DeedAt W' a d :=
  ⟨(hb.cell (block_lt_of_cell h.c0)).trans h.c0, (hb.cell (block_lt_of_cell h.c1)).trans h.c1, (hb.cell (block_lt_of_cell h.c2)).trans h.c2, h.wf⟩
/-- The deeds that came in: none, or a row of them. -/
def IsDeeds (W : World) (a : Option Addr) (len cap : Nat) : Prop :=
  (a = none ∧ len = 0 ∧ cap = 0) ∨ ∃ x, a = some x ∧ len ≤ cap ∧ ∀ i, i < len → ∃ d, DeedAt W (x.add (i * 3)) d
theorem IsDeeds.get {W : World} {a : Option Addr} {len cap : Nat} (h : IsDeeds W a len cap) (i : Nat) (hi : i < len) : ∃ x d, a = some x ∧ DeedAt W (x.add (i * 3)) d := by
  rcases h with ⟨_, h, _⟩ | ⟨x, h1, _, h3⟩
  · omega
  · obtain ⟨d, hd⟩ := h3 i hi
    exact ⟨x, d, h1, hd⟩
theorem IsDeeds.on {W W' : World} {a : Option Addr} {len cap : Nat} (h : IsDeeds W a len cap) (hb : Below W.heap.size W W') : IsDeeds W' a len cap := by
  rcases h with h | ⟨x, h1, h2, h3⟩
  · exact .inl h
  · exact .inr ⟨x, h1, h2, fun i hi => by obtain ⟨d, hd⟩ := h3 i hi; exact ⟨d, hd.on hb⟩⟩
theorem cells_int : Try.prog.cellsOf 3 = 1 := by kernel_rfl
theorem cells_uint64 : Try.prog.cellsOf 30 = 1 := by kernel_rfl
theorem cells_deed : Try.prog.cellsOf 32 = 3 := by kernel_rfl
theorem list3 {α : Type} {l : List α} (h : l.length = 3) : ∃ c0 c1 c2, l = [c0, c1, c2] := by
  match l, h with
  | [c0, c1, c2], _ => exact ⟨c0, c1, c2, rfl⟩
theorem wf_i64 {n : Int} (h : (Lit.int .i64 n).wf = true) : -9223372036854775808 ≤ n ∧ n ≤ 9223372036854775807 := i64_bounds h
theorem wf_u64 {n : Int} (h : (Lit.int .u64 n).wf = true) : 0 ≤ n ∧ n ≤ 18446744073709551615 := u64_bounds h
theorem open_deeds {H : Type} {enc : TypeId × Value → H} {w : World} {base : Nat} {spare : Nat → Bool} {held : Bool} {fuel : Nat} {a : Option Addr} {len cap : Nat} {x : DataW H × List MemPlace}
    (h : DataW.trod enc Try.prog w base spare held fuel 22 [.slice a len cap] = some x) : IsDeeds w a len cap := by
  rcases DataW.trod_slice Try.underlying22 h with ⟨h0, _⟩ | ⟨y, l, c, elems, rest, n, _, hcs, _, hb, hl, hm, hlen, hel, _, _⟩
  · cases h0
    exact .inl ⟨rfl, rfl, rfl⟩
  · cases hcs
    refine .inr ⟨y, rfl, hl, fun i hi => ?_⟩
    have e := hel i hi
    rw [List.getElem?_eq_getElem (by omega), Option.bind_eq_some_iff, cells_deed] at e
    obtain ⟨cs, hcs, ht⟩ := e
    obtain ⟨_, h3, hc⟩ := World.cells?_some hcs
    obtain ⟨c0, c1, c2, rfl⟩ := list3 h3
    obtain ⟨xs, m, _, _, _, hx3, hf⟩ := DataW.trod_struct Try.underlying32 ht
    obtain ⟨y0, y1, y2, rfl⟩ := list3 hx3
    have t0 : DataW.trod enc Try.prog w base spare held m 3 [c0] = some y0 := by have := hf 0 _ rfl; simpa [cells_int] using this
    have t1 : DataW.trod enc Try.prog w base spare held m 3 [c1] = some y1 := by have := hf 1 _ rfl; simpa [cells_int] using this
    have t2 : DataW.trod enc Try.prog w base spare held m 30 [c2] = some y2 := by have := hf 2 _ rfl; simpa [cells_uint64] using this
    obtain ⟨a0, e0, _, w0⟩ := DataW.trod_int Try.underlying3 t0
    obtain ⟨a1, e1, _, w1⟩ := DataW.trod_int Try.underlying3 t1
    obtain ⟨a2, e2, _, w2⟩ := DataW.trod_int Try.underlying30 t2
    obtain rfl := List.cons.inj e0 |>.1
    obtain rfl := List.cons.inj e1 |>.1
    obtain rfl := List.cons.inj e2 |>.1
    exact ⟨⟨a0, a1, a2⟩, hc 0 (by decide), hc 1 (by decide), hc 2 (by decide), wf_i64 w0, wf_i64 w1, wf_u64 w2⟩
end Go.Proofs.Ytmmaglhilghofaa
