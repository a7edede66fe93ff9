/- A header's variable that is kept while others are called. -/
import Derived.Test.YtfppjpcolohmfaaIpEx
namespace Go.Proofs.Ytfppjpcolohmfaa
open Go.RowKit

structure Kept (w : World) (h : Hd) (W : World) : Prop where
  at_ : HdAt W w.heap.size h
  below : Below w.heap.size w W
  size : w.heap.size + 1 ≤ W.heap.size
theorem Kept.on {w W W' : World} {h : Hd} (k : Kept w h W) (hb : Below W.heap.size W W') : Kept w h W' :=
  ⟨k.at_.on hb (by have := k.size; omega), k.below.trans (hb.mono (by have := k.size; omega)), Nat.le_trans k.size hb.size⟩
theorem kept_new (w : World) (h : Hd) (t : TypeId) : Kept w h (w.alloc (.cells #[.int .i64 h.tos, .int .i64 h.id, .int .i64 h.flags, .int .i64 h.frag, .int .i64 h.ttl, .int .i64 h.proto, .int .u32 h.src, .int .u32 h.dst, .string h.opts] t)) :=
  ⟨(newHd w h t).at_, (Below.refl _ _).alloc (Nat.le_refl _) _, by simp⟩
theorem alloc_on (W : World) (o : Obj) : Below W.heap.size W (W.alloc o) := (Below.refl _ _).alloc (Nat.le_refl _) _
end Go.Proofs.Ytfppjpcolohmfaa
