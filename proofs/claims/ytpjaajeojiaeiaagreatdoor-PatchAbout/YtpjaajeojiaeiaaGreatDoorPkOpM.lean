/- A struct that came in as an argument: opened, and shut again. -/
import Derived.Test.YtpjaajeojiaeiaaGreatDoorPkMake
import Derived.Lib.SmallJoins
import Derived.SizedLaws
import Derived.OpenShut
import Derived.ShutString
namespace Go.Proofs.YtpjaajeojiaeiaaGreatDoor.MO
open Go.ChangeShapes Go.WideShapes Go.ChangeAt Go.RowKit
open Go.ChangeMaps (open_string shut_string)
set_option maxRecDepth 100000

theorem arrayN {α : Type} {cs : Array α} (h : cs.size = 11) : ∃ c0 c1 c2 c3 c4 c5 c6 c7 c8 c9 c10, cs = #[c0, c1, c2, c3, c4, c5, c6, c7, c8, c9, c10] := by
 obtain ⟨l⟩ := cs
 match l, h with
 | [c0, c1, c2, c3, c4, c5, c6, c7, c8, c9, c10], _ => exact ⟨c0, c1, c2, c3, c4, c5, c6, c7, c8, c9, c10, rfl⟩
theorem listN {α : Type} {l : List α} (h : l.length = 11) : ∃ c0 c1 c2 c3 c4 c5 c6 c7 c8 c9 c10, l = [c0, c1, c2, c3, c4, c5, c6, c7, c8, c9, c10] := by
 match l, h with
 | [c0, c1, c2, c3, c4, c5, c6, c7, c8, c9, c10], _ => exact ⟨c0, c1, c2, c3, c4, c5, c6, c7, c8, c9, c10, rfl⟩
structure Fit (x : Mk) : Prop where
 kind : (Lit.int .u8 x.kind).wf = true
 src : (Lit.int .u32 x.src).wf = true
 dst : (Lit.int .u32 x.dst).wf = true
 sport : (Lit.int .u16 x.sport).wf = true
 dport : (Lit.int .u16 x.dport).wf = true
 flags : (Lit.int .u8 x.flags).wf = true
 ttl : (Lit.int .u8 x.ttl).wf = true
 body : x.body.size ≤ maxLen
 frm : (Lit.int .u32 x.frm).wf = true
 dest : (Lit.int .u32 x.dest).wf = true
theorem Fit.wf {x : Mk} (h : Fit x) (hs : x.body.size ≤ 140737488355328) : x.Wf := ⟨bounds_u8 h.kind, bounds_u32 h.src, bounds_u32 h.dst, bounds_u16 h.sport, bounds_u16 h.dport, bounds_u8 h.flags, bounds_u8 h.ttl, hs, bounds_u32 h.frm, bounds_u32 h.dest⟩
def hdata (H : Type) (x : Mk) : DataW H := .agg [.lit (.int .u8 x.kind), .lit (.int .u32 x.src), .lit (.int .u32 x.dst), .lit (.int .u16 x.sport), .lit (.int .u16 x.dport), .lit (.int .u8 x.flags), .lit (.int .u8 x.ttl), .lit (.string x.body.data.toList), .lit (.bool x.zero), .lit (.int .u32 x.frm), .lit (.int .u32 x.dest)]

section
variable {H : Type} {enc : TypeId × Value → H} {w : World} {base : Nat} {spare : Nat → Bool} {held : Bool}
theorem cells_u8 : Tryz.prog.cellsOf 5 = 1 := by kernel_rfl
theorem cells_u32 : Tryz.prog.cellsOf 22 = 1 := by kernel_rfl
theorem cells_u16 : Tryz.prog.cellsOf 23 = 1 := by kernel_rfl
theorem cells_s : Tryz.prog.cellsOf 9 = 1 := by kernel_rfl
theorem cells_b : Tryz.prog.cellsOf 4 = 1 := by kernel_rfl
theorem cellsH : Tryz.prog.cellsOf 25 = 11 := by kernel_rfl
theorem open_head {r : Reach} {b0 : Nat} {v : Value} {d : DataW H} {p : List MemPlace} (hv : Value.okWide Tryz.prog w r b0 25 v) (h : DataW.Trod enc Tryz.prog w base spare held 25 v d p) :
  ∃ x : Mk, v = x.val ∧ d = hdata H x ∧ p = [] ∧ Fit x := by
 obtain ⟨cs, rfl, hsz⟩ := okWide_struct Tryz.underlying25 hv
 obtain ⟨c0, c1, c2, c3, c4, c5, c6, c7, c8, c9, c10, rfl⟩ := arrayN (hsz.trans cellsH)
 obtain ⟨fuel, hf⟩ := h
 obtain ⟨xs, n, _, hx, hl, hlen, hff⟩ := DataW.trod_struct Tryz.underlying25 hf
 obtain ⟨y0, y1, y2, y3, y4, y5, y6, y7, y8, y9, y10, rfl⟩ := listN hlen
 have h0 : DataW.trod enc Tryz.prog w base spare held n 5 [c0] = some y0 := by have := hff 0 _ rfl; simpa [Value.cells, cells_u8, cells_u32, cells_u16, cells_s, cells_b] using this
 have h1 : DataW.trod enc Tryz.prog w base spare held n 22 [c1] = some y1 := by have := hff 1 _ rfl; simpa [Value.cells, cells_u8, cells_u32, cells_u16, cells_s, cells_b] using this
 have h2 : DataW.trod enc Tryz.prog w base spare held n 22 [c2] = some y2 := by have := hff 2 _ rfl; simpa [Value.cells, cells_u8, cells_u32, cells_u16, cells_s, cells_b] using this
 have h3 : DataW.trod enc Tryz.prog w base spare held n 23 [c3] = some y3 := by have := hff 3 _ rfl; simpa [Value.cells, cells_u8, cells_u32, cells_u16, cells_s, cells_b] using this
 have h4 : DataW.trod enc Tryz.prog w base spare held n 23 [c4] = some y4 := by have := hff 4 _ rfl; simpa [Value.cells, cells_u8, cells_u32, cells_u16, cells_s, cells_b] using this
 have h5 : DataW.trod enc Tryz.prog w base spare held n 5 [c5] = some y5 := by have := hff 5 _ rfl; simpa [Value.cells, cells_u8, cells_u32, cells_u16, cells_s, cells_b] using this
 have h6 : DataW.trod enc Tryz.prog w base spare held n 5 [c6] = some y6 := by have := hff 6 _ rfl; simpa [Value.cells, cells_u8, cells_u32, cells_u16, cells_s, cells_b] using this
 have h7 : DataW.trod enc Tryz.prog w base spare held n 9 [c7] = some y7 := by have := hff 7 _ rfl; simpa [Value.cells, cells_u8, cells_u32, cells_u16, cells_s, cells_b] using this
 have h8 : DataW.trod enc Tryz.prog w base spare held n 4 [c8] = some y8 := by have := hff 8 _ rfl; simpa [Value.cells, cells_u8, cells_u32, cells_u16, cells_s, cells_b] using this
 have h9 : DataW.trod enc Tryz.prog w base spare held n 22 [c9] = some y9 := by have := hff 9 _ rfl; simpa [Value.cells, cells_u8, cells_u32, cells_u16, cells_s, cells_b] using this
 have h10 : DataW.trod enc Tryz.prog w base spare held n 22 [c10] = some y10 := by have := hff 10 _ rfl; simpa [Value.cells, cells_u8, cells_u32, cells_u16, cells_s, cells_b] using this
 clear hff
 obtain ⟨a0, e0, rfl, w0⟩ := DataW.trod_int Tryz.underlying5 h0
 obtain ⟨a1, e1, rfl, w1⟩ := DataW.trod_int Tryz.underlying22 h1
 obtain ⟨a2, e2, rfl, w2⟩ := DataW.trod_int Tryz.underlying22 h2
 obtain ⟨a3, e3, rfl, w3⟩ := DataW.trod_int Tryz.underlying23 h3
 obtain ⟨a4, e4, rfl, w4⟩ := DataW.trod_int Tryz.underlying23 h4
 obtain ⟨a5, e5, rfl, w5⟩ := DataW.trod_int Tryz.underlying5 h5
 obtain ⟨a6, e6, rfl, w6⟩ := DataW.trod_int Tryz.underlying5 h6
 obtain ⟨a7, e7, rfl, w7⟩ := DataW.trod_string Tryz.underlying9 h7
 obtain ⟨a8, e8, rfl⟩ := DataW.trod_bool Tryz.underlying4 h8
 obtain ⟨a9, e9, rfl, w9⟩ := DataW.trod_int Tryz.underlying22 h9
 obtain ⟨a10, e10, rfl, w10⟩ := DataW.trod_int Tryz.underlying22 h10
 obtain rfl := List.cons.inj e0 |>.1
 obtain rfl := List.cons.inj e1 |>.1
 obtain rfl := List.cons.inj e2 |>.1
 obtain rfl := List.cons.inj e3 |>.1
 obtain rfl := List.cons.inj e4 |>.1
 obtain rfl := List.cons.inj e5 |>.1
 obtain rfl := List.cons.inj e6 |>.1
 obtain rfl := List.cons.inj e7 |>.1
 obtain rfl := List.cons.inj e8 |>.1
 obtain rfl := List.cons.inj e9 |>.1
 obtain rfl := List.cons.inj e10 |>.1
 simp only [Prod.mk.injEq] at hx
 exact ⟨⟨a0, a1, a2, a3, a4, a5, a6, a7, a8, a9, a10⟩, rfl, hx.1, hx.2, ⟨w0, w1, w2, w3, w4, w5, w6, w7, w9, w10⟩⟩
theorem shut_head (x : Mk) (hx : Fit x) : DataW.Trod enc Tryz.prog w base spare held 25 x.val (hdata H x) [] := by
 obtain ⟨n0, t0⟩ := shut_int (enc := enc) (w := w) (base := base) (spare := spare) (held := held) Tryz.underlying5 hx.kind
 obtain ⟨n1, t1⟩ := shut_int (enc := enc) (w := w) (base := base) (spare := spare) (held := held) Tryz.underlying22 hx.src
 obtain ⟨n2, t2⟩ := shut_int (enc := enc) (w := w) (base := base) (spare := spare) (held := held) Tryz.underlying22 hx.dst
 obtain ⟨n3, t3⟩ := shut_int (enc := enc) (w := w) (base := base) (spare := spare) (held := held) Tryz.underlying23 hx.sport
 obtain ⟨n4, t4⟩ := shut_int (enc := enc) (w := w) (base := base) (spare := spare) (held := held) Tryz.underlying23 hx.dport
 obtain ⟨n5, t5⟩ := shut_int (enc := enc) (w := w) (base := base) (spare := spare) (held := held) Tryz.underlying5 hx.flags
 obtain ⟨n6, t6⟩ := shut_int (enc := enc) (w := w) (base := base) (spare := spare) (held := held) Tryz.underlying5 hx.ttl
 obtain ⟨n7, t7⟩ := shut_string (enc := enc) (w := w) (base := base) (sp := spare) (held := held) Tryz.underlying9 hx.body
 obtain ⟨n8, t8⟩ := shut_bool (enc := enc) (w := w) (base := base) (spare := spare) (held := held) Tryz.underlying4 x.zero
 obtain ⟨n9, t9⟩ := shut_int (enc := enc) (w := w) (base := base) (spare := spare) (held := held) Tryz.underlying22 hx.frm
 obtain ⟨n10, t10⟩ := shut_int (enc := enc) (w := w) (base := base) (spare := spare) (held := held) Tryz.underlying22 hx.dest
 have u0 := DataW.trod_le (show n0 ≤ n0 + n1 + n2 + n3 + n4 + n5 + n6 + n7 + n8 + n9 + n10 by omega) t0
 have u1 := DataW.trod_le (show n1 ≤ n0 + n1 + n2 + n3 + n4 + n5 + n6 + n7 + n8 + n9 + n10 by omega) t1
 have u2 := DataW.trod_le (show n2 ≤ n0 + n1 + n2 + n3 + n4 + n5 + n6 + n7 + n8 + n9 + n10 by omega) t2
 have u3 := DataW.trod_le (show n3 ≤ n0 + n1 + n2 + n3 + n4 + n5 + n6 + n7 + n8 + n9 + n10 by omega) t3
 have u4 := DataW.trod_le (show n4 ≤ n0 + n1 + n2 + n3 + n4 + n5 + n6 + n7 + n8 + n9 + n10 by omega) t4
 have u5 := DataW.trod_le (show n5 ≤ n0 + n1 + n2 + n3 + n4 + n5 + n6 + n7 + n8 + n9 + n10 by omega) t5
 have u6 := DataW.trod_le (show n6 ≤ n0 + n1 + n2 + n3 + n4 + n5 + n6 + n7 + n8 + n9 + n10 by omega) t6
 have u7 := DataW.trod_le (show n7 ≤ n0 + n1 + n2 + n3 + n4 + n5 + n6 + n7 + n8 + n9 + n10 by omega) t7
 have u8 := DataW.trod_le (show n8 ≤ n0 + n1 + n2 + n3 + n4 + n5 + n6 + n7 + n8 + n9 + n10 by omega) t8
 have u9 := DataW.trod_le (show n9 ≤ n0 + n1 + n2 + n3 + n4 + n5 + n6 + n7 + n8 + n9 + n10 by omega) t9
 have u10 := DataW.trod_le (show n10 ≤ n0 + n1 + n2 + n3 + n4 + n5 + n6 + n7 + n8 + n9 + n10 by omega) t10
 simp only [Value.cells] at u0 u1 u2 u3 u4 u5 u6 u7 u8 u9 u10
 have ts := trod_struct_mk (enc := enc) (w := w) (base := base) (spare := spare) (held := held) (n := n0 + n1 + n2 + n3 + n4 + n5 + n6 + n7 + n8 + n9 + n10) (cs := [.int .u8 x.kind, .int .u32 x.src, .int .u32 x.dst, .int .u16 x.sport, .int .u16 x.dport, .int .u8 x.flags, .int .u8 x.ttl, .string x.body, .bool x.zero, .int .u32 x.frm, .int .u32 x.dest])
  (xs := [(.lit (.int .u8 x.kind), []), (.lit (.int .u32 x.src), []), (.lit (.int .u32 x.dst), []), (.lit (.int .u16 x.sport), []), (.lit (.int .u16 x.dport), []), (.lit (.int .u8 x.flags), []), (.lit (.int .u8 x.ttl), []), (.lit (.string x.body.data.toList), []), (.lit (.bool x.zero), []), (.lit (.int .u32 x.frm), []), (.lit (.int .u32 x.dest), [])])
  Tryz.underlying25 (by rw [cellsH]; rfl) (by simp [cells_u8, cells_u32, cells_u16, cells_s, cells_b, u0, u1, u2, u3, u4, u5, u6, u7, u8, u9, u10])
 exact ⟨_, by simpa [Value.cells, hdata] using ts⟩
theorem sized_head {ts : List TypeId} {ds : List (DataW H)} (h : (DataW.weightsEach Tryz.prog ts ds).all (· ≤ reachBytes) = true) {j : Nat} {x : Mk} (ht : ts[j]? = some 25) (hd : ds[j]? = some (hdata H x)) : x.body.size ≤ 140737488355328 := by
 have hm := DataW.weights_mem_each (P := Tryz.prog) ht hd x.body.data.toList.length (by unfold hdata DataW.weights; rw [Tryz.underlying25]; simp [DataW.weightsEach, DataW.weights])
 have := List.all_eq_true.1 h _ hm
 have e : x.body.data.toList.length = x.body.size := by rw [Array.length_toList]; rfl
 rw [e] at this
 have h2 : x.body.size ≤ reachBytes := by simpa using this
 exact Nat.le_trans h2 (by decide)
end
end Go.Proofs.YtpjaajeojiaeiaaGreatDoor.MO
