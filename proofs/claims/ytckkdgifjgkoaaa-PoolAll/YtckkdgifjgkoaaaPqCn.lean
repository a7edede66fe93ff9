/- The three counters of the law of All; the range, the count, the choice. -/
import Derived.Test.YtckkdgifjgkoaaaPqSt
namespace Go.Proofs.Ytckkdgifjgkoaaa
open Go.ChangeShapes Go.WideShapes Go.ChangeAt Go.RowKit Go.Maps An Sp
theorem results_cell {P : Program} {fn : Func} {p : Tmp} {ty : TypeId} (h : fn.results = #[.cell p ty]) (tmps : Array Value) (w : World) (ad : Addr) (v : Value) (hp : tmps.getD p undef = .pointer (some ad)) (hl : (loadVar ty ad).run P w = .ok v w) :
    (results fn tmps).run P w = .ok v w := by
  have hp' : tmps[p]?.getD undef = .pointer (some ad) := by simpa using hp
  simp [results, h, hp', asAddr, hl]
theorem load_bool {W : World} {ad : Addr} {x : Bool} (hc : W.cell? ad = some (.bool x)) : (loadVar 4 ad).run Try.prog W = .ok (.bool x) W := by
  simp [go_sem, hc]
namespace Po
/-- The ID ahead of the k-th. -/
def lastId (L : List Mem) : Nat → Nat
  | 0 => 0
  | k + 1 => (L.getD k noMem).id
theorem last_lt {L : List Mem} (hs : Rises L) (hi : ∀ m ∈ L, 1 ≤ m.id ∧ m.id ≤ 65535) {k : Nat} {m : Mem} (hm : L[k]? = some m) : lastId L k < m.id := by
  obtain ⟨hk, rfl⟩ := List.getElem?_eq_some_iff.1 hm
  cases k with
  | zero => exact (hi _ (List.getElem_mem hk)).1
  | succ k =>
    show (L.getD k noMem).id < _
    rw [List.getD_eq_getElem?_getD, List.getElem?_eq_getElem (by omega)]
    exact List.pairwise_iff_getElem.1 hs k (k + 1) (by omega) hk (by omega)
def actTo (L : List Mem) (k : Nat) : Nat := active (L.take k)
theorem act_zero (L : List Mem) : actTo L 0 = 0 := rfl
theorem act_all (L : List Mem) : actTo L L.length = active L := by unfold actTo; rw [List.take_length]
theorem act_succ {L : List Mem} {k : Nat} {m : Mem} (hm : L[k]? = some m) : actTo L (k + 1) = actTo L k + if m.st = 1 then 1 else 0 := active_take L k m hm
theorem act_le (L : List Mem) (k : Nat) : actTo L k ≤ k := Nat.le_trans (active_le _) (List.length_take_le _ _)
theorem keyB_port (port : Int) : keyB ⟨6, 0, 0, port, 0⟩ = decide (0 ≤ port ∧ port ≤ 65535) := by
  have h1 : laidB 1 6 = true := by decide +kernel
  have h2 : laidB 2 0 = true := by decide +kernel
  unfold keyB
  show (laidB 1 6 && laidB 2 port && laidB 2 0) = _
  rw [h1, h2, Bool.true_and, Bool.and_true, Bool.eq_iff_iff, laidB_iff, decide_eq_true_iff]
  unfold Room
  constructor
  · rintro ⟨_, h3, h4⟩
    have h4 : port.toNat < 65536 := h4
    omega
  · rintro ⟨h3, h4⟩
    refine ⟨by decide, h3, ?_⟩
    show port.toNat < 65536
    omega
theorem pick_port (p : Pl) (key : ByteArray) (port : Int) (ok : Bool) (h : (decide (0 < active p.L) && decide (0 ≤ port ∧ port ≤ 65535)) = ok) : ∃ x y z : Nat, pickV p key ⟨6, 0, 0, port, 0⟩ = .tuple #[.agg #[.int .i64 (x : Int), .int .u32 (y : Int), .int .i64 (z : Int)], .bool ok] := by
  rw [← keyB_port] at h
  cases hk : keyB ⟨6, 0, 0, port, 0⟩ with
  | false =>
    rw [hk, Bool.and_false] at h
    rw [pick_nokey hk, h]
    exact ⟨0, 0, 0, rfl⟩
  | true =>
    rw [hk, Bool.and_true] at h
    obtain ⟨x, y, z, e⟩ := pick_cases p key _ hk
    rw [h] at e
    exact ⟨x, y, z, e⟩
end Po
/-- .. and the counters: the last ID, how many, how many are active. -/
structure Cn (w : World) (base : Nat) (W : World) (b : QBk) (v : Value) (p : Pl) (M C i : Nat) (f : Int → Nat) (X : Nat) (l n a : Int) : Prop where
  st : St w base W b v p M C i f
  fo : ∀ id, f id = Po.stOf p id
  lw : Po.Lw p i
  r0 : Row W X [.int .i64 l]
  r1 : Row W (X + 1) [.int .i64 n]
  r2 : Row W (X + 2) [.int .i64 a]
  lts : ∀ x ∈ qfeet b v, x < X
  lM : M < X
  lC : C < X
  lY : w.heap.size < X
section
variable {w W W' : World} {base M C i X : Nat} {b : QBk} {v : Value} {p : Pl} {f : Int → Nat} {l n a : Int}
theorem Cn.keep (h : Cn w base W b v p M C i f X l n a) (hb : Below (X + 3) W W') : Cn w base W' b v p M C i f X l n a :=
  ⟨h.st.keep (fun x hx => by have := h.lts x hx; omega) (by have := h.lM; omega) (by have := h.lC; omega) (by have := h.lY; omega) hb, h.fo, h.lw, h.r0.on hb (by omega), h.r1.on hb (by omega), h.r2.on hb (by omega), h.lts, h.lM, h.lC, h.lY⟩
theorem below_cell (W : World) {B : Nat} {q : Nat} (hq : B ≤ q) (x : Value) : Below B W (W.setCell ⟨q, 0, none⟩ x) := (Below.refl _ _).setCell (p := ⟨q, 0, none⟩) hq x
theorem Cn.stAt (h : Cn w base W b v p M C i f X l n a) {q : Nat} (hq : X ≤ q) (x : Value) : St w base (W.setCell ⟨q, 0, none⟩ x) b v p M C i f :=
  h.st.keep h.lts h.lM h.lC h.lY (below_cell W hq x)
theorem Cn.set0 (h : Cn w base W b v p M C i f X l n a) (x : Int) : Cn w base (W.setCell ⟨X, 0, none⟩ (.int .i64 x)) b v p M C i f X x n a :=
  ⟨h.stAt (Nat.le_refl _) _, h.fo, h.lw, h.r0.set 0 _, h.r1.other (by omega) 0 _, h.r2.other (by omega) 0 _, h.lts, h.lM, h.lC, h.lY⟩
theorem Cn.set1 (h : Cn w base W b v p M C i f X l n a) (x : Int) : Cn w base (W.setCell ⟨X + 1, 0, none⟩ (.int .i64 x)) b v p M C i f X l x a :=
  ⟨h.stAt (by omega) _, h.fo, h.lw, h.r0.other (by omega) 0 _, h.r1.set 0 _, h.r2.other (by omega) 0 _, h.lts, h.lM, h.lC, h.lY⟩
theorem Cn.set2 (h : Cn w base W b v p M C i f X l n a) (x : Int) : Cn w base (W.setCell ⟨X + 2, 0, none⟩ (.int .i64 x)) b v p M C i f X l n x :=
  ⟨h.stAt (by omega) _, h.fo, h.lw, h.r0.other (by omega) 0 _, h.r1.other (by omega) 0 _, h.r2.set 0 _, h.lts, h.lM, h.lC, h.lY⟩
theorem Cn.look (h : Cn w base W b v p M C i f X l n a) {id : Int} (hi : -9223372036854775808 ≤ id ∧ id ≤ 9223372036854775807) : (Instr.lookup 61 (.map (some M)) (.int .i64 id) false).run Try.prog W = .ok (.int .i64 (Po.stOf p id : Int)) W := by
  have := h.st.map.look hi
  rwa [h.fo] at this
theorem cn_start {w W : World} {base M C i : Nat} {b : QBk} {v : Value} {p : Pl} (h : Lst' w base W b v p M C i) :
    ∃ f, Cn w base (((W.alloc (.cells #[.int .i64 0] 3)).alloc (.cells #[.int .i64 0] 3)).alloc (.cells #[.int .i64 0] 3)) b v p M C i f W.heap.size 0 0 0 := by
  obtain ⟨f, h1, h2, h3⟩ := h
  have b1 := alloc_on W (.cells #[.int .i64 0] 3)
  obtain ⟨W1, e1⟩ : ∃ W1, W.alloc (.cells #[.int .i64 0] 3) = W1 := ⟨_, rfl⟩
  have s1 : W1.heap.size = W.heap.size + 1 := by rw [← e1]; simp
  have q1 := row_new W [.int .i64 0] 3
  rw [e1] at b1 ⊢
  have q1 : Row W1 W.heap.size [.int .i64 0] := e1 ▸ q1
  have b2 := alloc_on W1 (.cells #[.int .i64 0] 3)
  obtain ⟨W2, e2⟩ : ∃ W2, W1.alloc (.cells #[.int .i64 0] 3) = W2 := ⟨_, rfl⟩
  have s2 : W2.heap.size = W.heap.size + 2 := by rw [← e2]; simp; omega
  have q2 := row_new W1 [.int .i64 0] 3
  rw [e2] at b2 ⊢
  have q2 : Row W2 (W.heap.size + 1) [.int .i64 0] := s1 ▸ e2 ▸ q2
  have b3 := alloc_on W2 (.cells #[.int .i64 0] 3)
  obtain ⟨W3, e3⟩ : ∃ W3, W2.alloc (.cells #[.int .i64 0] 3) = W3 := ⟨_, rfl⟩
  have q3 := row_new W2 [.int .i64 0] 3
  rw [e3] at b3 ⊢
  have q3 : Row W3 (W.heap.size + 2) [.int .i64 0] := s2 ▸ e3 ▸ q3
  exact ⟨f, ((h2.on b1).on b2).on b3, h1, h3, (q1.on' b2).on' b3, q2.on' b3, q3, fun x hx => (h2.run.lt x hx).2, h2.map.lt, h2.cell.lt, h2.res.lt⟩
/-- The result is written, and the mark is taken. -/
theorem St.fin (h : St w base W b v p M C i f) {D : Nat} (hK : W.heap[D]? = some (.deferred (some []))) (hD : w.heap.size < D) (x : Bool) : (W.setCell ⟨w.heap.size, 0, none⟩ (.bool x)).heap[D]? = some (.deferred (some [])) ∧ (∀ o, (loadVar 4 ⟨w.heap.size, 0, none⟩).run Try.prog ((W.setCell ⟨w.heap.size, 0, none⟩ (.bool x)).putObj D o) = .ok (.bool x) ((W.setCell ⟨w.heap.size, 0, none⟩ (.bool x)).putObj D o)) ∧ ∀ o, Below w.heap.size w ((W.setCell ⟨w.heap.size, 0, none⟩ (.bool x)).putObj D o) := by
  have hne : w.heap.size ≠ D := by omega
  refine ⟨(Below.heap_setCell _ _ _ _ (fun e => hne e.symm)).trans hK, fun o => load_bool (cell_put ((h.res.set 0 (.bool x)).cell 0 _ rfl) hne), fun o => below_put (h.run.below.setCell (p := ⟨w.heap.size, 0, none⟩) (Nat.le_refl _) _) (by omega) _⟩
/-- Behind the range: what is counted, and the mark. -/
structure Rs (w : World) (base : Nat) (W : World) (b : QBk) (v : Value) (p : Pl) (M C i : Nat) (f : Int → Nat) (X : Nat) (n a : Int) : Prop where
  cn : ∃ l, Cn w base W b v p M C i f X l n a
  mark : W.heap[X + 4]? = some (.deferred (some []))
theorem Rs.set1 (h : Rs w base W b v p M C i f X n a) (x : Int) : Rs w base (W.setCell ⟨X + 1, 0, none⟩ (.int .i64 x)) b v p M C i f X x a := by
  obtain ⟨l, h1⟩ := h.cn
  exact ⟨⟨l, h1.set1 x⟩, (Below.heap_setCell _ _ _ _ (by simp)).trans h.mark⟩
theorem Rs.on (h : Rs w base W b v p M C i f X n a) (hb : Below W.heap.size W W') : Rs w base W' b v p M C i f X n a := by
  obtain ⟨l, h1⟩ := h.cn
  exact ⟨⟨l, h1.keep (hb.mono h1.r2.lt)⟩, (hb.block _ (Array.getElem?_eq_some_iff.1 h.mark).1).trans h.mark⟩
/-- How many are left to be counted off. -/
def Po.left (L : List Mem) (j : Nat) : Int := (L.length : Int) - (Po.tally L (j - 1) : Int)
theorem left_one (L : List Mem) : Po.left L 1 = (L.length : Int) := by
  show (L.length : Int) - ((0 : Nat) : Int) = _
  omega
theorem left_bounds {p : Pl} {i : Nat} (h : Po.Lw p i) {j : Nat} (h2 : j ≤ 21) : 0 ≤ Po.left p.L j ∧ Po.left p.L j ≤ 1000000 := by
  have e := Po.tally_len (N := 20) p.L h.inv.ids fun m hm => by
    have h0 := Po.stOf_mem h.inv.ids hm
    have h3 := h.inv.st m hm
    have := h.ids (m.id : Int) (by omega)
    omega
  have := Po.tally_mono p.L (a := j - 1) (b := 20) (by omega)
  have := h.inv.len
  unfold Po.left
  omega
theorem left_end {p : Pl} {i : Nat} (h : Po.Lw p i) {j : Nat} (h2 : j = 21) : Po.left p.L j = 0 := by
  have e := Po.tally_len (N := 20) p.L h.inv.ids fun m hm => by
    have h0 := Po.stOf_mem h.inv.ids hm
    have h3 := h.inv.st m hm
    have := h.ids (m.id : Int) (by omega)
    omega
  subst h2
  unfold Po.left
  show (p.L.length : Int) - (Po.tally p.L 20 : Int) = 0
  omega
theorem left_succ {p : Pl} {i : Nat} (h : Po.Lw p i) {j : Nat} (h1 : 1 ≤ j) : Po.left p.L (j + 1) = Po.left p.L j - (if Po.stOf p (j : Int) ≠ 0 then 1 else 0) := by
  obtain ⟨k, rfl⟩ : ∃ k, j = k + 1 := ⟨j - 1, by omega⟩
  have e : Po.tally p.L (k + 1) = Po.tally p.L k + if Po.hasId p.L (k + 1) = true then 1 else 0 := rfl
  unfold Po.left
  show (p.L.length : Int) - (Po.tally p.L (k + 1) : Int) = (p.L.length : Int) - (Po.tally p.L k : Int) - _
  have hh := Po.hasId_st h.inv (k + 1)
  by_cases hs : Po.stOf p ((k + 1 : Nat) : Int) ≠ 0
  · rw [decide_eq_true hs] at hh
    rw [if_pos hh] at e
    rw [if_pos hs]; omega
  · rw [decide_eq_false hs] at hh
    rw [hh, if_neg (by decide)] at e
    rw [if_neg hs]; omega
theorem Rs.drew (h : Rs w base W b v p M C i f X n a) : Rs w base W.drew b v p M C i f X n a := h.on (Below.refl _ _).drew
theorem Rs.cellN (h : Rs w base W b v p M C i f X n a) : W.cell? ⟨X + 1, 0, none⟩ = some (.int .i64 n) := by
  obtain ⟨l, h1⟩ := h.cn
  exact h1.r1.cell 0 _ rfl
theorem Rs.cellA (h : Rs w base W b v p M C i f X n a) : W.cell? ⟨X + 2, 0, none⟩ = some (.int .i64 a) := by
  obtain ⟨l, h1⟩ := h.cn
  exact h1.r2.cell 0 _ rfl
theorem Rs.res (h : Rs w base W b v p M C i f X n a) : Row W w.heap.size [.bool false] := by
  obtain ⟨l, h1⟩ := h.cn
  exact h1.st.res
theorem Rs.active (h : Rs w base W b v p M C i f X n a) {A : Nat} (hA : Po.active p.L = A) :
    Calls Try.prog 12 #[.pointer (some ⟨b.p, 0, none⟩)] W fun e w' => e = .returned (.int .i64 (A : Int)) ∧ Below W.heap.size W w' := by
  obtain ⟨l, h1⟩ := h.cn
  refine h1.st.run.act.mono ?_
  rintro e w' ⟨rfl, rfl⟩
  exact ⟨by rw [hA], Below.refl _ _⟩
theorem Rs.fin (h : Rs w base W b v p M C i f X n a) (x : Bool) : (W.setCell ⟨w.heap.size, 0, none⟩ (.bool x)).heap[X + 4]? = some (.deferred (some [])) ∧ (∀ o, (loadVar 4 ⟨w.heap.size, 0, none⟩).run Try.prog ((W.setCell ⟨w.heap.size, 0, none⟩ (.bool x)).putObj (X + 4) o) = .ok (.bool x) ((W.setCell ⟨w.heap.size, 0, none⟩ (.bool x)).putObj (X + 4) o)) ∧ ∀ o, Below w.heap.size w ((W.setCell ⟨w.heap.size, 0, none⟩ (.bool x)).putObj (X + 4) o) := by
  obtain ⟨l, h1⟩ := h.cn
  exact h1.st.fin h.mark (by have := h1.lY; omega) x
end
end Go.Proofs.Ytckkdgifjgkoaaa
