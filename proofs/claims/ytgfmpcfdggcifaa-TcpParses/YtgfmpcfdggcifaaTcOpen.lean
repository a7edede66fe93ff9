/- A header that came in as an argument: opened, and shut again. -/
import Derived.Test.YtgfmpcfdggcifaaTcHd
import Derived.Lib.SmallJoins
import Derived.SizedLaws
namespace Go.Proofs.Ytgfmpcfdggcifaa
open Go.ChangeShapes Go.WideShapes Go.ChangeAt Go.RowKit
open Go.ChangeMaps (open_string shut_string)

theorem arrayN {α : Type} {cs : Array α} (h : cs.size = 8) : ∃ c0 c1 c2 c3 c4 c5 c6 c7, cs = #[c0, c1, c2, c3, c4, c5, c6, c7] := by
  obtain ⟨l⟩ := cs
  match l, h with
  | [c0, c1, c2, c3, c4, c5, c6, c7], _ => exact ⟨c0, c1, c2, c3, c4, c5, c6, c7, rfl⟩
theorem listN {α : Type} {l : List α} (h : l.length = 8) : ∃ c0 c1 c2 c3 c4 c5 c6 c7, l = [c0, c1, c2, c3, c4, c5, c6, c7] := by
  match l, h with
  | [c0, c1, c2, c3, c4, c5, c6, c7], _ => exact ⟨c0, c1, c2, c3, c4, c5, c6, c7, rfl⟩
structure Hd.Fit (x : Hd) : Prop where
  src : (Lit.int .i64 x.src).wf = true
  dst : (Lit.int .i64 x.dst).wf = true
  seq : (Lit.int .u32 x.seq).wf = true
  ack : (Lit.int .u32 x.ack).wf = true
  flags : (Lit.int .i64 x.flags).wf = true
  win : (Lit.int .i64 x.win).wf = true
  urg : (Lit.int .i64 x.urg).wf = true
  opts : x.opts.size ≤ maxLen
theorem Hd.Fit.wf {x : Hd} (h : x.Fit) (hs : x.opts.size ≤ 140737488355328) : x.Wf := ⟨bounds_i64 h.src, bounds_i64 h.dst, bounds_u32 h.seq, bounds_u32 h.ack, bounds_i64 h.flags, bounds_i64 h.win, bounds_i64 h.urg, hs⟩
def hdata (H : Type) (x : Hd) : DataW H := .agg [.lit (.int .i64 x.src), .lit (.int .i64 x.dst), .lit (.int .u32 x.seq), .lit (.int .u32 x.ack), .lit (.int .i64 x.flags), .lit (.int .i64 x.win), .lit (.int .i64 x.urg), .lit (.string x.opts.data.toList)]

section
variable {H : Type} {enc : TypeId × Value → H} {w : World} {base : Nat} {spare : Nat → Bool} {held : Bool}
theorem cells_int : Try.prog.cellsOf 3 = 1 := by kernel_rfl
theorem cells_uint32 : Try.prog.cellsOf 22 = 1 := by kernel_rfl
theorem cells_string : Try.prog.cellsOf 9 = 1 := by kernel_rfl
theorem cellsH : Try.prog.cellsOf 24 = 8 := by kernel_rfl
theorem open_head {r : Reach} {b0 : Nat} {v : Value} {d : DataW H} {p : List MemPlace} (hv : Value.okWide Try.prog w r b0 24 v) (h : DataW.Trod enc Try.prog w base spare held 24 v d p) :
    ∃ x : Hd, v = x.val ∧ d = hdata H x ∧ p = [] ∧ x.Fit := by
  obtain ⟨cs, rfl, hsz⟩ := okWide_struct Try.underlying24 hv
  obtain ⟨c0, c1, c2, c3, c4, c5, c6, c7, rfl⟩ := arrayN (hsz.trans cellsH)
  obtain ⟨fuel, hf⟩ := h
  obtain ⟨xs, n, _, hx, hl, hlen, hff⟩ := DataW.trod_struct Try.underlying24 hf
  obtain ⟨y0, y1, y2, y3, y4, y5, y6, y7, rfl⟩ := listN hlen
  have h0 : DataW.trod enc Try.prog w base spare held n 3 [c0] = some y0 := by have := hff 0 _ rfl; simpa [Value.cells, cells_int] using this
  have h1 : DataW.trod enc Try.prog w base spare held n 3 [c1] = some y1 := by have := hff 1 _ rfl; simpa [Value.cells, cells_int] using this
  have h2 : DataW.trod enc Try.prog w base spare held n 22 [c2] = some y2 := by have := hff 2 _ rfl; simpa [Value.cells, cells_uint32] using this
  have h3 : DataW.trod enc Try.prog w base spare held n 22 [c3] = some y3 := by have := hff 3 _ rfl; simpa [Value.cells, cells_uint32] using this
  have h4 : DataW.trod enc Try.prog w base spare held n 3 [c4] = some y4 := by have := hff 4 _ rfl; simpa [Value.cells, cells_int] using this
  have h5 : DataW.trod enc Try.prog w base spare held n 3 [c5] = some y5 := by have := hff 5 _ rfl; simpa [Value.cells, cells_int] using this
  have h6 : DataW.trod enc Try.prog w base spare held n 3 [c6] = some y6 := by have := hff 6 _ rfl; simpa [Value.cells, cells_int] using this
  have h7 : DataW.trod enc Try.prog w base spare held n 9 [c7] = some y7 := by have := hff 7 _ rfl; simpa [Value.cells, cells_string] using this
  clear hff
  obtain ⟨a0, e0, rfl, w0⟩ := DataW.trod_int Try.underlying3 h0
  obtain ⟨a1, e1, rfl, w1⟩ := DataW.trod_int Try.underlying3 h1
  obtain ⟨a2, e2, rfl, w2⟩ := DataW.trod_int Try.underlying22 h2
  obtain ⟨a3, e3, rfl, w3⟩ := DataW.trod_int Try.underlying22 h3
  obtain ⟨a4, e4, rfl, w4⟩ := DataW.trod_int Try.underlying3 h4
  obtain ⟨a5, e5, rfl, w5⟩ := DataW.trod_int Try.underlying3 h5
  obtain ⟨a6, e6, rfl, w6⟩ := DataW.trod_int Try.underlying3 h6
  obtain ⟨a7, e7, rfl, w7⟩ := DataW.trod_string Try.underlying9 h7
  obtain rfl := List.cons.inj e0 |>.1
  obtain rfl := List.cons.inj e1 |>.1
  obtain rfl := List.cons.inj e2 |>.1
  obtain rfl := List.cons.inj e3 |>.1
  obtain rfl := List.cons.inj e4 |>.1
  obtain rfl := List.cons.inj e5 |>.1
  obtain rfl := List.cons.inj e6 |>.1
  obtain rfl := List.cons.inj e7 |>.1
  simp only [Prod.mk.injEq] at hx
  exact ⟨⟨a0, a1, a2, a3, a4, a5, a6, a7⟩, rfl, hx.1, hx.2, ⟨w0, w1, w2, w3, w4, w5, w6, w7⟩⟩
theorem shut_head (x : Hd) (hx : x.Fit) : DataW.Trod enc Try.prog w base spare held 24 x.val (hdata H x) [] := by
  obtain ⟨n0, t0⟩ := shut_int (enc := enc) (w := w) (base := base) (spare := spare) (held := held) Try.underlying3 hx.src
  obtain ⟨n1, t1⟩ := shut_int (enc := enc) (w := w) (base := base) (spare := spare) (held := held) Try.underlying3 hx.dst
  obtain ⟨n2, t2⟩ := shut_int (enc := enc) (w := w) (base := base) (spare := spare) (held := held) Try.underlying22 hx.seq
  obtain ⟨n3, t3⟩ := shut_int (enc := enc) (w := w) (base := base) (spare := spare) (held := held) Try.underlying22 hx.ack
  obtain ⟨n4, t4⟩ := shut_int (enc := enc) (w := w) (base := base) (spare := spare) (held := held) Try.underlying3 hx.flags
  obtain ⟨n5, t5⟩ := shut_int (enc := enc) (w := w) (base := base) (spare := spare) (held := held) Try.underlying3 hx.win
  obtain ⟨n6, t6⟩ := shut_int (enc := enc) (w := w) (base := base) (spare := spare) (held := held) Try.underlying3 hx.urg
  obtain ⟨n7, t7⟩ := shut_string (enc := enc) (w := w) (base := base) (sp := spare) (held := held) Try.underlying9 hx.opts
  have u0 := DataW.trod_le (show n0 ≤ n0 + n1 + n2 + n3 + n4 + n5 + n6 + n7 by omega) t0
  have u1 := DataW.trod_le (show n1 ≤ n0 + n1 + n2 + n3 + n4 + n5 + n6 + n7 by omega) t1
  have u2 := DataW.trod_le (show n2 ≤ n0 + n1 + n2 + n3 + n4 + n5 + n6 + n7 by omega) t2
  have u3 := DataW.trod_le (show n3 ≤ n0 + n1 + n2 + n3 + n4 + n5 + n6 + n7 by omega) t3
  have u4 := DataW.trod_le (show n4 ≤ n0 + n1 + n2 + n3 + n4 + n5 + n6 + n7 by omega) t4
  have u5 := DataW.trod_le (show n5 ≤ n0 + n1 + n2 + n3 + n4 + n5 + n6 + n7 by omega) t5
  have u6 := DataW.trod_le (show n6 ≤ n0 + n1 + n2 + n3 + n4 + n5 + n6 + n7 by omega) t6
  have u7 := DataW.trod_le (show n7 ≤ n0 + n1 + n2 + n3 + n4 + n5 + n6 + n7 by omega) t7
  simp only [Value.cells] at u0 u1 u2 u3 u4 u5 u6 u7
  have ts := trod_struct_mk (enc := enc) (w := w) (base := base) (spare := spare) (held := held) (n := n0 + n1 + n2 + n3 + n4 + n5 + n6 + n7) (cs := [.int .i64 x.src, .int .i64 x.dst, .int .u32 x.seq, .int .u32 x.ack, .int .i64 x.flags, .int .i64 x.win, .int .i64 x.urg, .string x.opts])
    (xs := [(.lit (.int .i64 x.src), []), (.lit (.int .i64 x.dst), []), (.lit (.int .u32 x.seq), []), (.lit (.int .u32 x.ack), []), (.lit (.int .i64 x.flags), []), (.lit (.int .i64 x.win), []), (.lit (.int .i64 x.urg), []), (.lit (.string x.opts.data.toList), [])])
    Try.underlying24 (by rw [cellsH]; rfl) (by simp [cells_int, cells_uint32, cells_string, u0, u1, u2, u3, u4, u5, u6, u7])
  exact ⟨_, by simpa [Value.cells, hdata] using ts⟩
theorem sized_head {ts : List TypeId} {ds : List (DataW H)} (h : (DataW.weightsEach Try.prog ts ds).all (· ≤ reachBytes) = true) {j : Nat} {x : Hd} (ht : ts[j]? = some 24) (hd : ds[j]? = some (hdata H x)) : x.opts.size ≤ 140737488355328 := by
  have hm := DataW.weights_mem_each (P := Try.prog) ht hd x.opts.data.toList.length (by unfold hdata DataW.weights; rw [Try.underlying24]; simp [DataW.weightsEach, DataW.weights])
  have := List.all_eq_true.1 h _ hm
  have e : x.opts.data.toList.length = x.opts.size := by rw [Array.length_toList]; rfl
  rw [e] at this
  have h2 : x.opts.size ≤ reachBytes := by simpa using this
  exact Nat.le_trans h2 (Nat.le_of_lt reachBytes_lt)
end
end Go.Proofs.Ytgfmpcfdggcifaa
