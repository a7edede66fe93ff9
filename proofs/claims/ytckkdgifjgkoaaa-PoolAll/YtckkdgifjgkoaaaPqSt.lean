/- A pool, and beside it a map of the states that a law keeps; how many IDs are there. -/
import Derived.Test.YtckkdgifjgkoaaaPqRange
namespace Go.Proofs.Ytckkdgifjgkoaaa
open Go.ChangeShapes Go.WideShapes Go.ChangeAt Go.RowKit Go.Maps An Sp
namespace Po
def hasId (L : List Mem) (j : Nat) : Bool := L.any fun m => m.id == j
/-- How many of the IDs 1 to N are there. -/
def tally (L : List Mem) : Nat → Nat
  | 0 => 0
  | N + 1 => tally L N + if hasId L (N + 1) = true then 1 else 0
theorem tally_nil : ∀ N, tally [] N = 0
  | 0 => rfl
  | N + 1 => by
    unfold tally
    rw [tally_nil N]; rfl
theorem tally_cons {a : Mem} {L : List Mem} (h : ∀ m ∈ L, a.id < m.id) (h1 : 1 ≤ a.id) : ∀ N, tally (a :: L) N = tally L N + if a.id ≤ N then 1 else 0
  | 0 => by
    unfold tally
    rw [if_neg (by omega)]
  | N + 1 => by
    have ih := tally_cons h h1 N
    have hh : hasId (a :: L) (N + 1) = ((a.id == N + 1) || hasId L (N + 1)) := rfl
    show tally (a :: L) N + (if hasId (a :: L) (N + 1) = true then 1 else 0) = (tally L N + if hasId L (N + 1) = true then 1 else 0) + if a.id ≤ N + 1 then 1 else 0
    rw [ih]
    by_cases e : a.id = N + 1
    · have h0 : hasId L (N + 1) = false := by
        unfold hasId
        rw [List.any_eq_false]
        intro m hm
        have := h m hm
        simp
        omega
      have hh1 : hasId (a :: L) (N + 1) = true := by rw [hh, e]; simp
      have n1 : ¬ a.id ≤ N := by omega
      have n2 : a.id ≤ N + 1 := by omega
      rw [hh1, h0, if_neg n1, if_pos n2, if_pos rfl, if_neg (by decide)]
    · have e' : (a.id == N + 1) = false := by simpa using e
      rw [hh, e', Bool.false_or]
      generalize (if hasId L (N + 1) = true then 1 else 0) = z
      by_cases hle : a.id ≤ N
      · have n2 : a.id ≤ N + 1 := by omega
        rw [if_pos hle, if_pos n2]; omega
      · have n2 : ¬ a.id ≤ N + 1 := by omega
        rw [if_neg hle, if_neg n2]; omega
theorem tally_len {N : Nat} : ∀ (L : List Mem), Rises L → (∀ m ∈ L, 1 ≤ m.id ∧ m.id ≤ N) → tally L N = L.length
  | [], _, _ => tally_nil N
  | a :: L, hs, hi => by
    have hs' := List.pairwise_cons.1 hs
    have ha := hi a List.mem_cons_self
    rw [tally_cons hs'.1 ha.1, tally_len L hs'.2 fun m hm => hi m (List.mem_cons_of_mem _ hm), if_pos ha.2, List.length_cons]
theorem tally_mono (L : List Mem) : ∀ {a b : Nat}, a ≤ b → tally L a ≤ tally L b := by
  intro a b h
  induction h with
  | refl => exact Nat.le_refl _
  | step _ ih =>
    refine Nat.le_trans ih ?_
    show _ ≤ tally L _ + _
    omega
theorem hasId_st {room : Nat} {p : Pl} (hI : PInv room p.a p.L p.own) (j : Nat) : hasId p.L j = decide (stOf p (j : Int) ≠ 0) := by
  rw [← stOf_there hI, Bool.eq_iff_iff, there_iff hI.ids]
  unfold hasId
  rw [List.any_eq_true]
  constructor
  · rintro ⟨m, hm, e⟩
    exact ⟨m, hm, by have : m.id = j := by simpa using e
                     omega⟩
  · rintro ⟨m, hm, e⟩
    exact ⟨m, hm, by have : m.id = j := by omega
                     simpa using this⟩
end Po
/-- The map in block M reads as f. -/
def MapRd (W : World) (M i : Nat) (f : Int → Nat) : Prop := ∃ D : DataW Unit, W.ownsMap Try.prog 3 (plainElem Try.prog 3) M (Maps.size D) D ∧ Maps.size D ≤ i ∧ ∀ id : Int, D.atKey (kI id) (.lit (kI 0)) = .lit (kI (f id : Int))
theorem MapRd.lt {W : World} {M i : Nat} {f : Int → Nat} (h : MapRd W M i f) : M < W.heap.size := by
  obtain ⟨D, h1, _⟩ := h
  exact h1.lt
theorem MapRd.of_block {W W' : World} {M i : Nat} {f : Int → Nat} (h : MapRd W M i f) (e : W'.heap[M]? = W.heap[M]?) : MapRd W' M i f := by
  obtain ⟨D, h1, h2⟩ := h
  exact ⟨D, ownsMap_block h1 e, h2⟩
theorem MapRd.more {W : World} {M i j : Nat} {f : Int → Nat} (h : MapRd W M i f) (hj : i ≤ j) : MapRd W M j f := by
  obtain ⟨D, h1, h2, h3⟩ := h
  exact ⟨D, h1, Nat.le_trans h2 hj, h3⟩
theorem map_made (W : World) : MapRd (W.alloc (.map #[] 0)) W.heap.size 0 (fun _ => 0) := ⟨.map [], World.ownsMap_made W Try.prog 3 _, Nat.le_refl _, fun _ => rfl⟩
theorem MapRd.look {W : World} {M i : Nat} {f : Int → Nat} (h : MapRd W M i f) {id : Int} (hi : -9223372036854775808 ≤ id ∧ id ≤ 9223372036854775807) : (Instr.lookup 61 (.map (some M)) (.int .i64 id) false).run Try.prog W = .ok (.int .i64 (f id : Int)) W := by
  obtain ⟨D, h1, _, h3⟩ := h
  obtain ⟨c, k1, k2, _⟩ := h1.lookup_int lawM Try.underlying61 Try.underlying3 (zeroN W) (key_mk hi)
  rw [h3] at k2
  have k3 := (DataW.lit.inj k2)
  have k4 := (Lit.int.inj k3).2
  exact k4 ▸ k1
theorem MapRd.set {W : World} {M i : Nat} {f : Int → Nat} (h : MapRd W M i f) (hs : i ≤ 1000) (id : Int) (hi : -9223372036854775808 ≤ id ∧ id ≤ 9223372036854775807) (s : Nat) (hs2 : s ≤ 1000) :
    ∃ w', (Instr.mapUpdate 61 (.map (some M)) (.int .i64 id) (.int .i64 (s : Int))).run Try.prog W = .ok () w' ∧ MapRd w' M (i + 1) (fun j => if j = id then s else f j) ∧ W.grownBy w' (some M) := by
  obtain ⟨D, h1, h2, h3⟩ := h
  obtain ⟨w', r1, r2, r3⟩ := h1.store lawM Try.underlying61 (by unfold maxLen; omega) (key_mk hi) (plainElem_int (a := (s : Int)) Try.underlying3 (WalkArith.wf_i64 (by omega)))
  have ht := h1.tidy lawM
  refine ⟨w', r1, ⟨_, own_tight r2, ?_, fun j => ?_⟩, r3.grown⟩
  · rw [Maps.size_put ht]
    split <;> omega
  · show _ = DataW.lit (kI ((if j = id then s else f j : Nat) : Int))
    by_cases e : j = id
    · rw [if_pos e, e, atKey_put_same ht.isMap (kI_key _)]
    · rw [if_neg e, atKey_put_other (kI_ne e), h3]
/-- The pool, the map of the states, the variable that holds it, the result. -/
structure St (w : World) (base : Nat) (W : World) (b : QBk) (v : Value) (p : Pl) (M C i : Nat) (f : Int → Nat) : Prop where
  run : Run w base key0 30 W b v p
  map : MapRd W M i f
  cell : Row W C [.map (some M)]
  res : Row W w.heap.size [.bool false]
  offM : M ∉ qfeet b v
  offC : C ∉ qfeet b v
  offY : w.heap.size ∉ qfeet b v
  mc : M ≠ C
  my : M ≠ w.heap.size
  cy : C ≠ w.heap.size
  wm : w.heap.size ≤ M
  wc : w.heap.size ≤ C
section
variable {w W W' : World} {base M C i : Nat} {b : QBk} {v v' : Value} {p p' : Pl} {f : Int → Nat}
theorem St.on (h : St w base W b v p M C i f) (hb : Below W.heap.size W W') : St w base W' b v p M C i f :=
  ⟨h.run.on hb, h.map.of_block (hb.block _ h.map.lt), h.cell.on' hb, h.res.on' hb, h.offM, h.offC, h.offY, h.mc, h.my, h.cy, h.wm, h.wc⟩
theorem St.drewN (h : St w base W b v p M C i f) (j : Nat) : St w base (W.drewN j) b v p M C i f := h.on (below_drewN (Below.refl _ _) j)
theorem St.went (h : St w base W b v p M C i f) (hr : Run w base key0 30 W' b v' p') (hg : QWent W W' b v v') : St w base W' b v' p' M C i f :=
  ⟨hr, h.map.of_block (hg.but.block _ h.map.lt h.offM), hg.row h.cell h.offC, hg.row h.res h.offY, hg.off h.offM h.map.lt, hg.off h.offC h.cell.lt, hg.off h.offY h.res.lt, h.mc, h.my, h.cy, h.wm, h.wc⟩
theorem St.more (h : St w base W b v p M C i f) {j : Nat} (hj : i ≤ j) : St w base W b v p M C j f := ⟨h.run, h.map.more hj, h.cell, h.res, h.offM, h.offC, h.offY, h.mc, h.my, h.cy, h.wm, h.wc⟩
theorem St.set (h : St w base W b v p M C i f) (hs : i ≤ 1000) (id : Int) (hi : -9223372036854775808 ≤ id ∧ id ≤ 9223372036854775807) (s : Nat) (hs2 : s ≤ 1000) :
    ∃ w', (Instr.mapUpdate 61 (.map (some M)) (.int .i64 id) (.int .i64 (s : Int))).run Try.prog W = .ok () w' ∧ St w base w' b v p M C (i + 1) (fun j => if j = id then s else f j) := by
  obtain ⟨w', r1, r2, r3⟩ := h.map.set hs id hi s hs2
  have e : ∀ x, x < W.heap.size → x ≠ M → w'.heap[x]? = W.heap[x]? := fun x hx hn => r3.block x hx fun e => hn (by injection e)
  exact ⟨w', r1, ⟨h.run.at_.of_blocks fun x hx => e x (h.run.lt x hx).2 fun e => h.offM (e ▸ hx), h.run.inv, h.run.below.grown r3 h.run.below.size (fun j hj => by cases hj; exact h.wm), h.run.wb, h.run.hr, h.run.hk⟩, r2, h.cell.of_block (e _ h.cell.lt h.mc.symm), h.res.of_block (e _ h.res.lt h.my.symm), h.offM, h.offC, h.offY, h.mc, h.my, h.cy, h.wm, h.wc⟩
theorem St.keep (h : St w base W b v p M C i f) {B : Nat} (hlt : ∀ x ∈ qfeet b v, x < B) (hM : M < B) (hC : C < B) (hY : w.heap.size < B) (hb : Below B W W') : St w base W' b v p M C i f :=
  ⟨h.run.keep hlt (Nat.le_of_lt hY) hb, h.map.of_block (hb.block _ hM), h.cell.of_block (hb.block _ hC), h.res.of_block (hb.block _ hY), h.offM, h.offC, h.offY, h.mc, h.my, h.cy, h.wm, h.wc⟩
end
namespace Po
/-- What a pool is behind i of the law's steps. -/
structure Lw (p : Pl) (i : Nat) : Prop where
  inv : PInv 30 p.a p.L p.own
  ids : ∀ id : Int, stOf p id ≠ 0 → 1 ≤ id ∧ id ≤ 20
  act : active p.L ≤ i
theorem lw_start : Lw (pl0 30) 0 := ⟨pinv_start 30 (by decide), fun id h => absurd rfl h, Nat.le_refl _⟩
section
variable {p : Pl} {i : Nat} {id : Int}
theorem Lw.more (h : Lw p i) : Lw p (i + 1) := ⟨h.inv, h.ids, Nat.le_succ_of_le h.act⟩
theorem Lw.put_yes (h : Lw p i) (hi : i < 30) (h1 : 1 ≤ id ∧ id ≤ 20) (hs : stOf p id = 0) : putE 30 p id 0 = 0 ∧ Lw (putP 30 p id 7 0) (i + 1) ∧ ∀ j, stOf (putP 30 p id 7 0) j = if j = id then 1 else stOf p j := by
  have e : putE 30 p id 0 = 0 := by
    rw [putE_eq h.inv, if_neg (fun hh => hh ⟨h1.1, by omega, by decide, by decide⟩), if_neg (fun hh => hh hs), if_neg (by have := h.act; omega)]
  have st := fun j => put_st (addr := 7) h.inv e j
  refine ⟨e, ⟨put_inv h.inv id 7 0, fun j hj => ?_, ?_⟩, st⟩
  · rw [st] at hj
    by_cases ej : j = id
    · rw [ej]; exact h1
    · rw [if_neg ej] at hj; exact h.ids j hj
  · rw [put_active e]; have := h.act; omega
theorem Lw.put_no (h : Lw p i) (h1 : 1 ≤ id ∧ id ≤ 20) (hs : stOf p id ≠ 0) : putE 30 p id 0 = 20 ∧ putP 30 p id 7 0 = p := by
  have e : putE 30 p id 0 = 20 := by rw [putE_eq h.inv, if_neg (fun hh => hh ⟨h1.1, by omega, by decide, by decide⟩), if_pos hs]
  exact ⟨e, Po.put_no (by rw [e]; decide)⟩
theorem Lw.drain_yes (h : Lw p i) (h1 : 1 ≤ id ∧ id ≤ 20) (hs : stOf p id = 1) : drainE p id = 0 ∧ Lw (drainP p id) (i + 1) ∧ ∀ j, stOf (drainP p id) j = if j = id then 2 else stOf p j := by
  have e : drainE p id = 0 := by rw [drainE_eq h.inv, if_pos hs]
  have st := fun j => drain_st h.inv hs j
  refine ⟨e, ⟨drain_inv h.inv id, fun j hj => ?_, ?_⟩, st⟩
  · rw [st] at hj
    by_cases ej : j = id
    · rw [ej]; exact h1
    · rw [if_neg ej] at hj; exact h.ids j hj
  · have := drain_active h.inv hs; have := h.act; omega
theorem Lw.drain_no (h : Lw p i) (hs : stOf p id ≠ 1) : drainE p id = (if stOf p id = 0 then 19 else 15) ∧ drainP p id = p := ⟨by rw [drainE_eq h.inv, if_neg hs], Po.drainP_no hs⟩
theorem Lw.gone_yes (h : Lw p i) (hs : stOf p id ≠ 0) : goneE p id = 0 ∧ Lw (goneP p id) (i + 1) ∧ ∀ j, stOf (goneP p id) j = if j = id then 0 else stOf p j := by
  have e : goneE p id = 0 := by rw [goneE_eq h.inv, if_neg hs]
  have st := fun j => gone_st h.inv id j
  refine ⟨e, ⟨gone_inv h.inv id, fun j hj => ?_, ?_⟩, st⟩
  · rw [st] at hj
    by_cases ej : j = id
    · rw [if_pos ej] at hj; exact absurd rfl hj
    · rw [if_neg ej] at hj; exact h.ids j hj
  · have := gone_active h.inv hs; have := h.act; omega
theorem Lw.gone_no (h : Lw p i) (hs : stOf p id = 0) : goneE p id = 19 ∧ goneP p id = p := ⟨by rw [goneE_eq h.inv, if_pos hs], goneP_no h.inv hs⟩
end
end Po
section
variable {w W : World} {base M C i : Nat} {b : QBk} {v : Value} {p : Pl} {f : Int → Nat}
theorem St.put (h : St w base W b v p M C i f) (id : Int) :
    Calls Try.prog 15 #[.pointer (some ⟨b.p, 0, none⟩), .agg #[.int .i64 id, .int .u32 7, .int .i64 0]] W fun e w' => e = .returned (.int .i64 (Po.putE 30 p id 0)) ∧ ∃ v', St w base w' b v' (Po.putP 30 p id 7 0) M C i f := by
  refine (h.run.put id 7 0 (by decide)).mono ?_
  rintro e w' ⟨rfl, v', h1, h2⟩
  exact ⟨rfl, v', h.went h1 h2⟩
theorem St.drain (h : St w base W b v p M C i f) (id : Int) (hi : -9223372036854775808 ≤ id ∧ id ≤ 9223372036854775807) :
    Calls Try.prog 18 #[.pointer (some ⟨b.p, 0, none⟩), .int .i64 id] W fun e w' => e = .returned (.int .i64 (Po.drainE p id)) ∧ ∃ v', St w base w' b v' (Po.drainP p id) M C i f := by
  refine (h.run.drain id hi).mono ?_
  rintro e w' ⟨rfl, v', h1, h2⟩
  exact ⟨rfl, v', h.went h1 h2⟩
theorem St.gone (h : St w base W b v p M C i f) (id : Int) (hi : -9223372036854775808 ≤ id ∧ id ≤ 9223372036854775807) :
    Calls Try.prog 19 #[.pointer (some ⟨b.p, 0, none⟩), .int .i64 id] W fun e w' => e = .returned (.int .i64 (Po.goneE p id)) ∧ ∃ v', St w base w' b v' (Po.goneP p id) M C i f := by
  refine (h.run.gone id hi).mono ?_
  rintro e w' ⟨rfl, v', h1, h2⟩
  exact ⟨rfl, v', h.went h1 h2⟩
/-- The map says the pool's states. -/
def Lst' (w : World) (base : Nat) (W : World) (b : QBk) (v : Value) (p : Pl) (M C i : Nat) : Prop := ∃ f, (∀ id, f id = Po.stOf p id) ∧ St w base W b v p M C i f ∧ Po.Lw p i
end
theorem st_start {w w1 w2 : World} {b : QBk} {v : Value} (hY : Row w1 w.heap.size [.bool false]) (hs1 : w.heap.size < w1.heap.size) (R2 : Run w w1.heap.size key0 30 w2 b v (pl0 30)) (hb2 : Below w1.heap.size w1 w2) :
    Lst' w w1.heap.size ((w2.alloc (.map #[] 0)).alloc (.cells #[.map (some w2.heap.size)] 61)) b v (pl0 30) w2.heap.size (w2.heap.size + 1) 0 := by
  have b1 := alloc_on w2 (.map #[] 0)
  have b2 := alloc_on (w2.alloc (.map #[] 0)) (.cells #[.map (some w2.heap.size)] 61)
  have s2 := hb2.size
  refine ⟨fun _ => 0, fun id => rfl, ⟨(R2.on b1).on b2, (map_made w2).of_block (b2.block _ (by simp)), ?_, ((hY.on' hb2).on' b1).on' b2, R2.fresh (Nat.le_refl _), R2.fresh (by omega), R2.old hs1, by omega, by omega, by omega, by omega, by omega⟩, Po.lw_start⟩
  have := row_new (w2.alloc (.map #[] 0)) [.map (some w2.heap.size)] 61
  rwa [World.size_alloc] at this
end Go.Proofs.Ytckkdgifjgkoaaa
