/- A header that came in as an argument: opened, and shut again. -/
import Derived.Test.YteggaeleehlhmaaDoorIcHd
import Derived.Lib.SmallJoins
import Derived.SizedLaws
namespace Go.Proofs.YteggaeleehlhmaaDoor
open Go.ChangeShapes Go.WideShapes Go.ChangeAt Go.RowKit
open Go.ChangeMaps (open_string shut_string)

theorem arrayN {α : Type} {cs : Array α} (h : cs.size = 4) : ∃ c0 c1 c2 c3, cs = #[c0, c1, c2, c3] := by
  obtain ⟨l⟩ := cs
  match l, h with
  | [c0, c1, c2, c3], _ => exact ⟨c0, c1, c2, c3, rfl⟩
theorem listN {α : Type} {l : List α} (h : l.length = 4) : ∃ c0 c1 c2 c3, l = [c0, c1, c2, c3] := by
  match l, h with
  | [c0, c1, c2, c3], _ => exact ⟨c0, c1, c2, c3, rfl⟩
structure Hd.Fit (x : Hd) : Prop where
  kind : (Lit.int .i64 x.kind).wf = true
  code : (Lit.int .i64 x.code).wf = true
  rest : (Lit.int .u32 x.rest).wf = true
  body : x.body.size ≤ maxLen
theorem Hd.Fit.wf {x : Hd} (h : x.Fit) (hs : x.body.size ≤ 140737488355328) : x.Wf := ⟨bounds_i64 h.kind, bounds_i64 h.code, bounds_u32 h.rest, hs⟩
def hdata (H : Type) (x : Hd) : DataW H := .agg [.lit (.int .i64 x.kind), .lit (.int .i64 x.code), .lit (.int .u32 x.rest), .lit (.string x.body.data.toList)]

section
variable {H : Type} {enc : TypeId × Value → H} {w : World} {base : Nat} {spare : Nat → Bool} {held : Bool}
theorem cells_int : Tryd.prog.cellsOf 3 = 1 := by kernel_rfl
theorem cells_uint32 : Tryd.prog.cellsOf 22 = 1 := by kernel_rfl
theorem cells_string : Tryd.prog.cellsOf 9 = 1 := by kernel_rfl
theorem cellsH : Tryd.prog.cellsOf 24 = 4 := by kernel_rfl
theorem open_head {r : Reach} {b0 : Nat} {v : Value} {d : DataW H} {p : List MemPlace} (hv : Value.okWide Tryd.prog w r b0 24 v) (h : DataW.Trod enc Tryd.prog w base spare held 24 v d p) :
    ∃ x : Hd, v = x.val ∧ d = hdata H x ∧ p = [] ∧ x.Fit := by
  obtain ⟨cs, rfl, hsz⟩ := okWide_struct Tryd.underlying24 hv
  obtain ⟨c0, c1, c2, c3, rfl⟩ := arrayN (hsz.trans cellsH)
  obtain ⟨fuel, hf⟩ := h
  obtain ⟨xs, n, _, hx, hl, hlen, hff⟩ := DataW.trod_struct Tryd.underlying24 hf
  obtain ⟨y0, y1, y2, y3, rfl⟩ := listN hlen
  have h0 : DataW.trod enc Tryd.prog w base spare held n 3 [c0] = some y0 := by have := hff 0 _ rfl; simpa [Value.cells, cells_int] using this
  have h1 : DataW.trod enc Tryd.prog w base spare held n 3 [c1] = some y1 := by have := hff 1 _ rfl; simpa [Value.cells, cells_int] using this
  have h2 : DataW.trod enc Tryd.prog w base spare held n 22 [c2] = some y2 := by have := hff 2 _ rfl; simpa [Value.cells, cells_uint32] using this
  have h3 : DataW.trod enc Tryd.prog w base spare held n 9 [c3] = some y3 := by have := hff 3 _ rfl; simpa [Value.cells, cells_string] using this
  clear hff
  obtain ⟨a0, e0, rfl, w0⟩ := DataW.trod_int Tryd.underlying3 h0
  obtain ⟨a1, e1, rfl, w1⟩ := DataW.trod_int Tryd.underlying3 h1
  obtain ⟨a2, e2, rfl, w2⟩ := DataW.trod_int Tryd.underlying22 h2
  obtain ⟨a3, e3, rfl, w3⟩ := DataW.trod_string Tryd.underlying9 h3
  obtain rfl := List.cons.inj e0 |>.1
  obtain rfl := List.cons.inj e1 |>.1
  obtain rfl := List.cons.inj e2 |>.1
  obtain rfl := List.cons.inj e3 |>.1
  simp only [Prod.mk.injEq] at hx
  exact ⟨⟨a0, a1, a2, a3⟩, rfl, hx.1, hx.2, ⟨w0, w1, w2, w3⟩⟩
theorem shut_head (x : Hd) (hx : x.Fit) : DataW.Trod enc Tryd.prog w base spare held 24 x.val (hdata H x) [] := by
  obtain ⟨n0, t0⟩ := shut_int (enc := enc) (w := w) (base := base) (spare := spare) (held := held) Tryd.underlying3 hx.kind
  obtain ⟨n1, t1⟩ := shut_int (enc := enc) (w := w) (base := base) (spare := spare) (held := held) Tryd.underlying3 hx.code
  obtain ⟨n2, t2⟩ := shut_int (enc := enc) (w := w) (base := base) (spare := spare) (held := held) Tryd.underlying22 hx.rest
  obtain ⟨n3, t3⟩ := shut_string (enc := enc) (w := w) (base := base) (sp := spare) (held := held) Tryd.underlying9 hx.body
  have u0 := DataW.trod_le (show n0 ≤ n0 + n1 + n2 + n3 by omega) t0
  have u1 := DataW.trod_le (show n1 ≤ n0 + n1 + n2 + n3 by omega) t1
  have u2 := DataW.trod_le (show n2 ≤ n0 + n1 + n2 + n3 by omega) t2
  have u3 := DataW.trod_le (show n3 ≤ n0 + n1 + n2 + n3 by omega) t3
  simp only [Value.cells] at u0 u1 u2 u3
  have ts := trod_struct_mk (enc := enc) (w := w) (base := base) (spare := spare) (held := held) (n := n0 + n1 + n2 + n3) (cs := [.int .i64 x.kind, .int .i64 x.code, .int .u32 x.rest, .string x.body])
    (xs := [(.lit (.int .i64 x.kind), []), (.lit (.int .i64 x.code), []), (.lit (.int .u32 x.rest), []), (.lit (.string x.body.data.toList), [])])
    Tryd.underlying24 (by rw [cellsH]; rfl) (by simp [cells_int, cells_uint32, cells_string, u0, u1, u2, u3])
  exact ⟨_, by simpa [Value.cells, hdata] using ts⟩
theorem sized_head {ts : List TypeId} {ds : List (DataW H)} (h : (DataW.weightsEach Tryd.prog ts ds).all (· ≤ reachBytes) = true) {j : Nat} {x : Hd} (ht : ts[j]? = some 24) (hd : ds[j]? = some (hdata H x)) : x.body.size ≤ 140737488355328 := by
  have hm := DataW.weights_mem_each (P := Tryd.prog) ht hd x.body.data.toList.length (by unfold hdata DataW.weights; rw [Tryd.underlying24]; simp [DataW.weightsEach, DataW.weights])
  have := List.all_eq_true.1 h _ hm
  have e : x.body.data.toList.length = x.body.size := by rw [Array.length_toList]; rfl
  rw [e] at this
  have h2 : x.body.size ≤ reachBytes := by simpa using this
  exact Nat.le_trans h2 (Nat.le_of_lt reachBytes_lt)
end
end Go.Proofs.YteggaeleehlhmaaDoor
