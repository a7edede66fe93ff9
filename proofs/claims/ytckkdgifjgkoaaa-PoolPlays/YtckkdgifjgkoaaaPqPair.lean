/- Two pools that are changed side by side, that of the package and that of the reference. -/
import Derived.Test.YtckkdgifjgkoaaaPqRange
import Derived.Test.YtckkdgifjgkoaaaAnAny
import Derived.OpenShut
import Derived.SizedLaws
namespace Go.Proofs.Ytckkdgifjgkoaaa
open Go.ChangeShapes Go.WideShapes Go.ChangeAt Go.RowKit Go.Maps An Sp

theorem obj_lt {W : World} {k : Nat} {o : Obj} (h : W.heap[k]? = some o) : k < W.heap.size := (Array.getElem?_eq_some_iff.1 h).1
/-- Both, what is boxed besides (fx), and what lay there. -/
structure Pair (w : World) (base base' room : Nat) (fx : List (Nat × Obj)) (W : World) (b : QBk) (v : Value) (c : RBk) (u uL : Value) (p q : Pl) : Prop where
  one : Run w base key0 room W b v p
  two : RAt base' W key0 room c u uL q.a q.L q.own
  inv : PInv room q.a q.L q.own
  wb : w.heap.size ≤ base'
  off : ∀ x ∈ qfeet b v, x ∉ rfeet c u uL
  fix : ∀ f ∈ fx, W.heap[f.1]? = some f.2 ∧ f.1 ∉ qfeet b v ∧ f.1 ∉ rfeet c u uL
section
variable {w W W' : World} {base base' room : Nat} {fx gx : List (Nat × Obj)} {b : QBk} {v v' : Value} {c : RBk} {u uL u' uL' : Value} {p q p' q' : Pl}
theorem Pair.on (h : Pair w base base' room fx W b v c u uL p q) (hb : Below W.heap.size W W') : Pair w base base' room fx W' b v c u uL p q :=
  ⟨h.one.on hb, h.two.on hb, h.inv, h.wb, h.off, fun f hf => ⟨(hb.block _ (obj_lt (h.fix f hf).1)).trans (h.fix f hf).1, (h.fix f hf).2⟩⟩
theorem Pair.drew (h : Pair w base base' room fx W b v c u uL p q) : Pair w base base' room fx W.drew b v c u uL p q := h.on (Below.refl _ _).drew
theorem Pair.drewN (h : Pair w base base' room fx W b v c u uL p q) (j : Nat) : Pair w base base' room fx (W.drewN j) b v c u uL p q := h.on (below_drewN (Below.refl _ _) j)
theorem Pair.wentQ (h : Pair w base base' room fx W b v c u uL p q) (hr : Run w base key0 room W' b v' p') (hg : QWent W W' b v v') : Pair w base base' room fx W' b v' c u uL p' q := by
  refine ⟨hr, h.two.of_blocks fun x hx => hg.but.block x (h.two.lt x hx).2 fun hx' => h.off x hx' hx, h.inv, h.wb, fun x hx hx' => ?_, fun f hf => ?_⟩
  · rcases hg.new x hx with h1 | h1
    · exact h.off x h1 hx'
    · have := (h.two.lt x hx').2
      omega
  · obtain ⟨h1, h2, h3⟩ := h.fix f hf
    exact ⟨(hg.but.block _ (obj_lt h1) h2).trans h1, hg.off h2 (obj_lt h1), h3⟩
theorem Pair.wentR (h : Pair w base base' room fx W b v c u uL p q) (hr : RAt base' W' key0 room c u' uL' q'.a q'.L q'.own) (hI : PInv room q'.a q'.L q'.own) (hg : PWent W W' c u uL u' uL') : Pair w base base' room fx W' b v c u' uL' p q' := by
  have hb : Below w.heap.size w W' := PWent.below h.one.below hg h.two h.wb
  refine ⟨⟨h.one.at_.of_blocks fun x hx => hg.but.block x (h.one.lt x hx).2 fun hx' => h.off x hx hx', h.one.inv, hb, h.one.wb, h.one.hr, h.one.hk⟩, hr, hI, h.wb, fun x hx hx' => ?_, fun f hf => ?_⟩
  · rcases hg.new x hx' with h1 | h1
    · exact h.off x hx h1
    · have := (h.one.lt x hx).2
      omega
  · obtain ⟨h1, h2, h3⟩ := h.fix f hf
    refine ⟨(hg.but.block _ (obj_lt h1) h3).trans h1, h2, fun hx => ?_⟩
    rcases hg.new _ hx with h4 | h4
    · exact h3 h4
    · have := obj_lt h1
      omega
/-- One more is boxed. -/
theorem Pair.box (h : Pair w base base' room fx W b v c u uL p q) (l : List Value) (ty : TypeId) : Pair w base base' room ((W.heap.size, .cells l.toArray ty) :: fx) (W.alloc (.cells l.toArray ty)) b v c u uL p q := by
  have h2 := h.on (alloc_on W (.cells l.toArray ty))
  refine ⟨h2.one, h2.two, h2.inv, h2.wb, h2.off, fun f hf => ?_⟩
  rcases List.mem_cons.1 hf with rfl | hf
  · exact ⟨World.alloc_heap_new W _, h.one.fresh (Nat.le_refl _), fun hx => by have := (h.two.lt _ hx).2; simp at this⟩
  · exact h2.fix f hf
theorem Pair.less (h : Pair w base base' room fx W b v c u uL p q) (hg : ∀ f ∈ gx, f ∈ fx) : Pair w base base' room gx W b v c u uL p q := ⟨h.one, h.two, h.inv, h.wb, h.off, fun f hf => h.fix f (hg f hf)⟩
theorem Pair.lt (h : Pair w base base' room fx W b v c u uL p q) : (∀ y ∈ qfeet b v, y < W.heap.size) ∧ (∀ y ∈ rfeet c u uL, y < W.heap.size) ∧ ∀ f ∈ fx, f.1 < W.heap.size := ⟨fun y hy => (h.one.lt y hy).2, fun y hy => (h.two.lt y hy).2, fun f hf => obj_lt (h.fix f hf).1⟩
theorem Pair.keep (h : Pair w base base' room fx W b v c u uL p q) {B : Nat} (h1 : ∀ y ∈ qfeet b v, y < B) (h2 : ∀ y ∈ rfeet c u uL, y < B) (h3 : ∀ f ∈ fx, f.1 < B) (hw : w.heap.size ≤ B) (hb : Below B W W') : Pair w base base' room fx W' b v c u uL p q :=
  ⟨h.one.keep h1 hw hb, h.two.of_blocks fun x hx => hb.block x (h2 x hx), h.inv, h.wb, h.off, fun f hf => ⟨(hb.block _ (h3 f hf)).trans (h.fix f hf).1, (h.fix f hf).2⟩⟩
theorem Pair.other (h : Pair w base base' room fx W b v c u uL p q) {B : Nat} (h1 : ∀ y ∈ qfeet b v, y < B) (h2 : ∀ y ∈ rfeet c u uL, y < B) (h3 : ∀ f ∈ fx, f.1 < B) (hw : w.heap.size ≤ B) (i : Nat) (x : Value) : Pair w base base' room fx (W.setCell ⟨B, i, none⟩ x) b v c u uL p q :=
  h.keep h1 h2 h3 hw ((Below.refl B W).setCell (p := ⟨B, i, none⟩) (Nat.le_refl _) x)
/-- What is boxed, as a row. -/
theorem Pair.row (h : Pair w base base' room fx W b v c u uL p q) {x : Nat} {l : List Value} {ty : TypeId} (hf : (x, Obj.cells l.toArray ty (0, 0)) ∈ fx) : Row W x l := ⟨ty, (h.fix _ hf).1⟩
/-- The four answers, on both sides. -/
theorem Pair.putQ (h : Pair w base base' room fx W b v c u uL p q) (id addr port : Int) (ha : 0 ≤ addr) :
    Calls Try.prog 15 #[.pointer (some ⟨b.p, 0, none⟩), .agg #[.int .i64 id, .int .u32 addr, .int .i64 port]] W fun e w' => e = .returned (.int .i64 (Po.putE room p id port)) ∧ ∃ v', Pair w base base' room fx w' b v' c u uL (Po.putP room p id addr port) q := by
  refine (h.one.put id addr port ha).mono ?_
  rintro e w' ⟨rfl, v', h1, h2⟩
  exact ⟨rfl, v', h.wentQ h1 h2⟩
theorem Pair.putR (h : Pair w base base' room fx W b v c u uL p q) (h1 : 1 ≤ room) (id addr port : Int) (ha : 0 ≤ addr) :
    Calls Try.prog 25 #[.pointer (some ⟨c.p, 0, none⟩), .agg #[.int .i64 id, .int .u32 addr, .int .i64 port]] W fun e w' => e = .returned (.int .i64 (Po.putE room q id port)) ∧ ∃ u' uL', Pair w base base' room fx w' b v c u' uL' p (Po.putP room q id addr port) := by
  refine (rput_any h.two h.inv h1 h.one.hr id addr port ha).mono ?_
  rintro e w' ⟨rfl, u', uL', h1, h2⟩
  exact ⟨rfl, u', uL', h.wentR h1 (put_inv h.inv id addr port) h2⟩
theorem Pair.drainQ (h : Pair w base base' room fx W b v c u uL p q) (id : Int) (hi : -9223372036854775808 ≤ id ∧ id ≤ 9223372036854775807) :
    Calls Try.prog 18 #[.pointer (some ⟨b.p, 0, none⟩), .int .i64 id] W fun e w' => e = .returned (.int .i64 (Po.drainE p id)) ∧ ∃ v', Pair w base base' room fx w' b v' c u uL (Po.drainP p id) q := by
  refine (h.one.drain id hi).mono ?_
  rintro e w' ⟨rfl, v', h1, h2⟩
  exact ⟨rfl, v', h.wentQ h1 h2⟩
theorem Pair.drainR (h : Pair w base base' room fx W b v c u uL p q) (id : Int) :
    Calls Try.prog 26 #[.pointer (some ⟨c.p, 0, none⟩), .int .i64 id] W fun e w' => e = .returned (.int .i64 (Po.drainE q id)) ∧ ∃ u' uL', Pair w base base' room fx w' b v c u' uL' p (Po.drainP q id) := by
  refine (rdrain_any h.two h.inv h.one.hr id).mono ?_
  rintro e w' ⟨rfl, u', h1, h2⟩
  exact ⟨rfl, u', uL, h.wentR h1 (drain_inv h.inv id) h2⟩
theorem Pair.goneQ (h : Pair w base base' room fx W b v c u uL p q) (id : Int) (hi : -9223372036854775808 ≤ id ∧ id ≤ 9223372036854775807) :
    Calls Try.prog 19 #[.pointer (some ⟨b.p, 0, none⟩), .int .i64 id] W fun e w' => e = .returned (.int .i64 (Po.goneE p id)) ∧ ∃ v', Pair w base base' room fx w' b v' c u uL (Po.goneP p id) q := by
  refine (h.one.gone id hi).mono ?_
  rintro e w' ⟨rfl, v', h1, h2⟩
  exact ⟨rfl, v', h.wentQ h1 h2⟩
theorem Pair.goneR (h : Pair w base base' room fx W b v c u uL p q) (id : Int) :
    Calls Try.prog 27 #[.pointer (some ⟨c.p, 0, none⟩), .int .i64 id] W fun e w' => e = .returned (.int .i64 (Po.goneE q id)) ∧ ∃ u' uL', Pair w base base' room fx w' b v c u' uL' p (Po.goneP q id) := by
  refine (rgone_any h.two h.inv h.one.hr id).mono ?_
  rintro e w' ⟨rfl, u', uL', h1, h2⟩
  exact ⟨rfl, u', uL', h.wentR h1 (gone_inv h.inv id) h2⟩
theorem Pair.ractive (h : Pair w base base' room fx W b v c u uL p q) :
    Calls Try.prog 13 #[.pointer (some ⟨c.p, 0, none⟩)] W fun e w' => e = .returned (.int .i64 (Po.active q.L : Int)) ∧ w' = W := ractive_any h.two h.inv.len
end
structure Deed where
  kind : Int
  id : Int
  addr : Int
  port : Int
  t : Tp
def Deed.cells (d : Deed) : List Value := [.int .i64 d.kind, .int .i64 d.id, .int .u32 d.addr, .int .i64 d.port, .int .i64 d.t.proto, .int .u32 d.t.src, .int .u32 d.t.dst, .int .i64 d.t.sport, .int .i64 d.t.dport]
structure Deed.Wf (d : Deed) : Prop where
  kind : -9223372036854775808 ≤ d.kind ∧ d.kind ≤ 9223372036854775807
  id : -9223372036854775808 ≤ d.id ∧ d.id ≤ 9223372036854775807
  addr : 0 ≤ d.addr
  t : d.t.Wf
/-- What Choose answers, as it is. -/
theorem Po.pick_form (p : Pl) (key : ByteArray) (t : Tp) : ∃ (x y z : Nat) (ok : Bool), Po.pickV p key t = .tuple #[.agg #[.int .i64 (x : Int), .int .u32 (y : Int), .int .i64 (z : Int)], .bool ok] := by
  by_cases hk : keyB t = true
  · obtain ⟨x, y, z, h⟩ := Po.pick_cases p key t hk
    exact ⟨x, y, z, _, h⟩
  · exact ⟨0, 0, 0, false, Po.pick_nokey (by simpa using hk)⟩
theorem Po.get_form (p : Pl) (id : Int) : ∃ (x y z s : Nat) (e : Int), Po.getV p id = .tuple #[.agg #[.int .i64 (x : Int), .int .u32 (y : Int), .int .i64 (z : Int)], .int .i64 (s : Int), .int .i64 e] := by
  obtain ⟨x, y, z, h⟩ := Po.getV_eq p id
  exact ⟨x, y, z, _, _, h⟩
end Go.Proofs.Ytckkdgifjgkoaaa
