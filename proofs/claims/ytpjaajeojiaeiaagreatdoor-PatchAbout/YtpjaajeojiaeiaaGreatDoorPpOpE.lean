/- A struct that came in as an argument: opened, and shut again. -/
import Derived.Test.YtpjaajeojiaeiaaGreatDoorPpA
import Derived.Lib.SmallJoins
import Derived.SizedLaws
import Derived.OpenShut
import Derived.ShutString
namespace Go.Proofs.YtpjaajeojiaeiaaGreatDoor.EO
open Go.ChangeShapes Go.WideShapes Go.ChangeAt Go.RowKit
open Go.ChangeMaps (open_string shut_string)
set_option maxRecDepth 100000

theorem arrayN {α : Type} {cs : Array α} (h : cs.size = 4) : ∃ c0 c1 c2 c3, cs = #[c0, c1, c2, c3] := by
 obtain ⟨l⟩ := cs
 match l, h with
 | [c0, c1, c2, c3], _ => exact ⟨c0, c1, c2, c3, rfl⟩
theorem listN {α : Type} {l : List α} (h : l.length = 4) : ∃ c0 c1 c2 c3, l = [c0, c1, c2, c3] := by
 match l, h with
 | [c0, c1, c2, c3], _ => exact ⟨c0, c1, c2, c3, rfl⟩
structure Fit (x : En) : Prop where
 src : (Lit.int .u32 x.src).wf = true
 dst : (Lit.int .u32 x.dst).wf = true
 sport : (Lit.int .i64 x.sport).wf = true
 dport : (Lit.int .i64 x.dport).wf = true
theorem Fit.u32 {x : En} (h : Fit x) : Ps.U32 x.src ∧ Ps.U32 x.dst := ⟨bounds_u32 h.src, bounds_u32 h.dst⟩
def hdata (H : Type) (x : En) : DataW H := .agg [.lit (.int .u32 x.src), .lit (.int .u32 x.dst), .lit (.int .i64 x.sport), .lit (.int .i64 x.dport)]

section
variable {H : Type} {enc : TypeId × Value → H} {w : World} {base : Nat} {spare : Nat → Bool} {held : Bool}
theorem cells_u32 : Tryz.prog.cellsOf 22 = 1 := by kernel_rfl
theorem cells_i64 : Tryz.prog.cellsOf 3 = 1 := by kernel_rfl
theorem cellsH : Tryz.prog.cellsOf 27 = 4 := by kernel_rfl
theorem open_head {r : Reach} {b0 : Nat} {v : Value} {d : DataW H} {p : List MemPlace} (hv : Value.okWide Tryz.prog w r b0 27 v) (h : DataW.Trod enc Tryz.prog w base spare held 27 v d p) :
  ∃ x : En, v = x.val ∧ d = hdata H x ∧ p = [] ∧ Fit x := by
 obtain ⟨cs, rfl, hsz⟩ := okWide_struct Tryz.underlying27 hv
 obtain ⟨c0, c1, c2, c3, rfl⟩ := arrayN (hsz.trans cellsH)
 obtain ⟨fuel, hf⟩ := h
 obtain ⟨xs, n, _, hx, hl, hlen, hff⟩ := DataW.trod_struct Tryz.underlying27 hf
 obtain ⟨y0, y1, y2, y3, rfl⟩ := listN hlen
 have h0 : DataW.trod enc Tryz.prog w base spare held n 22 [c0] = some y0 := by have := hff 0 _ rfl; simpa [Value.cells, cells_u32, cells_i64] using this
 have h1 : DataW.trod enc Tryz.prog w base spare held n 22 [c1] = some y1 := by have := hff 1 _ rfl; simpa [Value.cells, cells_u32, cells_i64] using this
 have h2 : DataW.trod enc Tryz.prog w base spare held n 3 [c2] = some y2 := by have := hff 2 _ rfl; simpa [Value.cells, cells_u32, cells_i64] using this
 have h3 : DataW.trod enc Tryz.prog w base spare held n 3 [c3] = some y3 := by have := hff 3 _ rfl; simpa [Value.cells, cells_u32, cells_i64] using this
 clear hff
 obtain ⟨a0, e0, rfl, w0⟩ := DataW.trod_int Tryz.underlying22 h0
 obtain ⟨a1, e1, rfl, w1⟩ := DataW.trod_int Tryz.underlying22 h1
 obtain ⟨a2, e2, rfl, w2⟩ := DataW.trod_int Tryz.underlying3 h2
 obtain ⟨a3, e3, rfl, w3⟩ := DataW.trod_int Tryz.underlying3 h3
 obtain rfl := List.cons.inj e0 |>.1
 obtain rfl := List.cons.inj e1 |>.1
 obtain rfl := List.cons.inj e2 |>.1
 obtain rfl := List.cons.inj e3 |>.1
 simp only [Prod.mk.injEq] at hx
 exact ⟨⟨a0, a1, a2, a3⟩, rfl, hx.1, hx.2, ⟨w0, w1, w2, w3⟩⟩
theorem shut_head (x : En) (hx : Fit x) : DataW.Trod enc Tryz.prog w base spare held 27 x.val (hdata H x) [] := by
 obtain ⟨n0, t0⟩ := shut_int (enc := enc) (w := w) (base := base) (spare := spare) (held := held) Tryz.underlying22 hx.src
 obtain ⟨n1, t1⟩ := shut_int (enc := enc) (w := w) (base := base) (spare := spare) (held := held) Tryz.underlying22 hx.dst
 obtain ⟨n2, t2⟩ := shut_int (enc := enc) (w := w) (base := base) (spare := spare) (held := held) Tryz.underlying3 hx.sport
 obtain ⟨n3, t3⟩ := shut_int (enc := enc) (w := w) (base := base) (spare := spare) (held := held) Tryz.underlying3 hx.dport
 have u0 := DataW.trod_le (show n0 ≤ n0 + n1 + n2 + n3 by omega) t0
 have u1 := DataW.trod_le (show n1 ≤ n0 + n1 + n2 + n3 by omega) t1
 have u2 := DataW.trod_le (show n2 ≤ n0 + n1 + n2 + n3 by omega) t2
 have u3 := DataW.trod_le (show n3 ≤ n0 + n1 + n2 + n3 by omega) t3
 simp only [Value.cells] at u0 u1 u2 u3
 have ts := trod_struct_mk (enc := enc) (w := w) (base := base) (spare := spare) (held := held) (n := n0 + n1 + n2 + n3) (cs := [.int .u32 x.src, .int .u32 x.dst, .int .i64 x.sport, .int .i64 x.dport])
  (xs := [(.lit (.int .u32 x.src), []), (.lit (.int .u32 x.dst), []), (.lit (.int .i64 x.sport), []), (.lit (.int .i64 x.dport), [])])
  Tryz.underlying27 (by rw [cellsH]; rfl) (by simp [cells_u32, cells_i64, u0, u1, u2, u3])
 exact ⟨_, by simpa [Value.cells, hdata] using ts⟩
theorem sized_head {ts : List TypeId} {ds : List (DataW H)} (_ : (DataW.weightsEach Tryz.prog ts ds).all (· ≤ reachBytes) = true) {j : Nat} {x : En} (_ : ts[j]? = some 27) (_ : ds[j]? = some (hdata H x)) : True := trivial
end
end Go.Proofs.YtpjaajeojiaeiaaGreatDoor.EO
