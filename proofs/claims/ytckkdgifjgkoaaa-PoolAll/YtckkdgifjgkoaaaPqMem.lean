/- The program's pool of chapter 13 in memory: its anchor, its members as a map by their IDs, whose the buckets are as a map. -/
import Derived.Test.YtckkdgifjgkoaaaPoReach
import Derived.Maps.Own
import Derived.Maps.OwnSet
namespace Go.Proofs.Ytckkdgifjgkoaaa
open Go.ChangeShapes Go.WideShapes Go.ChangeAt Go.RowKit Go.Maps An

/-- A member as a value; what it reads as. -/
abbrev Mem.val (m : Mem) : Value := .agg #[.int .i64 (m.id : Int), .int .u32 (m.addr : Int), .int .i64 (m.port : Int), .int .i64 (m.st : Int), .int .i64 (m.bk : Int)]
abbrev Mem.bval (m : Mem) : Value := .agg #[.int .i64 (m.id : Int), .int .u32 (m.addr : Int), .int .i64 (m.port : Int)]
def Mem.dat (m : Mem) : DataW Unit := .agg [.lit (.int .i64 (m.id : Int)), .lit (.int .u32 (m.addr : Int)), .lit (.int .i64 (m.port : Int)), .lit (.int .i64 (m.st : Int)), .lit (.int .i64 (m.bk : Int))]
def noMem : Mem := ⟨0, 0, 0, 0, 0⟩
theorem Mem.val_inj {m m' : Mem} (h : m.val = m'.val) : m = m' := by
  obtain ⟨a, b, c, d, e⟩ := m
  obtain ⟨a', b', c', d', e'⟩ := m'
  simp at h
  obtain ⟨h1, h2, h3, h4, h5⟩ := h
  simp only [Mem.mk.injEq]
  omega
theorem Mem.dat_inj {m m' : Mem} (h : m.dat = m'.dat) : m = m' := by
  obtain ⟨a, b, c, d, e⟩ := m
  obtain ⟨a', b', c', d', e'⟩ := m'
  simp [Mem.dat] at h
  obtain ⟨h1, h2, h3, h4, h5⟩ := h
  simp only [Mem.mk.injEq]
  omega
open Classical in
/-- How a member reads. -/
noncomputable def Rm (v : Value) : Option (DataW Unit × List MemPlace) := if h : ∃ m : Mem, v = m.val then some (h.choose.dat, []) else none
theorem Rm_mk (m : Mem) : Rm m.val = some (m.dat, []) := by
  have h : ∃ m' : Mem, m.val = m'.val := ⟨m, rfl⟩
  unfold Rm
  rw [dif_pos h, ← Mem.val_inj h.choose_spec]
theorem Rm_inv {v : Value} {m : Mem} {ps : List MemPlace} (h : Rm v = some (m.dat, ps)) : v = m.val := by
  unfold Rm at h
  split at h
  · rename_i hx
    have h1 := hx.choose_spec
    have h2 := Option.some.inj h
    rw [h1, Mem.dat_inj (Prod.mk.inj h2).1]
  · cases h

theorem lawM : Keyed Try.prog 3 := int_keyed Try.underlying3
theorem zeroN (w : World) : (zeroValue 3).run Try.prog w = .ok (.int .i64 0) w := by kernel_rfl
theorem zeroM (w : World) : (zeroValue 85).run Try.prog w = .ok noMem.val w := by kernel_rfl
abbrev kI (x : Int) : Lit := .int .i64 x
theorem key_mk {x : Int} (h : -9223372036854775808 ≤ x ∧ x ≤ 9223372036854775807) : keyOf Try.prog 3 (.int .i64 x) = some (kI x) := keyOf_int_mk Try.underlying3 (WalkArith.wf_i64 h)
theorem kI_key (x : Int) : WideAt.IsKeyLit (kI x) := trivial
theorem kI_ne {x y : Int} (h : x ≠ y) : kI x ≠ kI y := fun e => h (by injection e)

/-- A map is at most as great as what it reads as. -/
theorem own_tight {P : Program} {k : TypeId} {R : Value → Option (DataW Unit × List MemPlace)} {w : World} {b n : Nat} {D : DataW Unit} (h : w.ownsMap P k R b n D) : w.ownsMap P k R b (Maps.size D) D := by
  obtain ⟨es, clock, hb, F, hs, rfl⟩ := h
  exact ⟨es, clock, hb, F, by simp [Maps.size, length_sorted], rfl⟩

/-- The members' map reads as the list; whose the buckets are as the function. -/
structure MapM (D : DataW Unit) (L : List Mem) : Prop where
  size : Maps.size D = L.length
  has : ∀ id : Int, Maps.has D (kI id) = Po.there L id
  at_ : ∀ m ∈ L, ∀ z, D.atKey (kI (m.id : Int)) z = m.dat
structure MapO (D : DataW Unit) (room : Nat) (own : Nat → Nat) (n : Nat) : Prop where
  size : Maps.size D = n
  has : ∀ k : Nat, k < room → Maps.has D (kI (k : Int)) = decide (own k ≠ 0)
  at_ : ∀ k : Nat, k < room → own k ≠ 0 → ∀ z, D.atKey (kI (k : Int)) z = .lit (kI (own k : Int))
theorem mapM_nil : MapM (.map []) [] := ⟨rfl, fun _ => rfl, fun m h => by simp at h⟩
theorem mapO_nil (room : Nat) : MapO (.map []) room (fun _ => 0) 0 := ⟨rfl, fun _ _ => rfl, fun _ _ h => absurd rfl h⟩
theorem MapM.none {D : DataW Unit} {L : List Mem} (h : MapM D L) {id : Int} (ht : Po.there L id = false) (z : DataW Unit) : D.atKey (kI id) z = z := atKey_of_not_has (by rw [h.has, ht]) z
theorem MapO.none {D : DataW Unit} {room n : Nat} {own : Nat → Nat} (h : MapO D room own n) {k : Nat} (hk : k < room) (ho : own k = 0) (z : DataW Unit) : D.atKey (kI (k : Int)) z = z := atKey_of_not_has (by rw [h.has k hk, ho]; rfl) z
/-- One more who is there. -/
theorem MapM.put {D : DataW Unit} {L : List Mem} (h : MapM D L) (ht : Tidy D) (hr : Po.Rises L) (x : Mem) (hx : Po.there L x.id = false) : MapM (D.put (kI (x.id : Int)) x.dat) (L.take (Po.place L x.id) ++ x :: L.drop (Po.place L x.id)) := by
  have hr' := Po.rises_put L x hr hx
  refine ⟨?_, fun id => ?_, fun m hm z => ?_⟩
  · rw [Maps.size_put ht, h.has, hx, h.size, List.length_append, List.length_cons]
    have : (L.take (Po.place L x.id)).length + (L.drop (Po.place L x.id)).length = L.length := by rw [← List.length_append, List.take_append_drop]
    simp only [Bool.false_eq_true, if_false]
    omega
  · by_cases e : id = (x.id : Int)
    · subst e
      rw [has_put_same ht.isMap (kI_key _)]
      exact (Po.there_of hr' ((Po.mem_put L x x _).2 (.inl rfl))).symm
    · rw [has_put_other (kI_ne e), h.has]
      rw [Bool.eq_iff_iff, Po.there_iff hr, Po.there_iff hr']
      constructor
      · rintro ⟨m, hm, rfl⟩
        exact ⟨m, (Po.mem_put L x m _).2 (.inr hm), rfl⟩
      · rintro ⟨m, hm, rfl⟩
        rcases (Po.mem_put L x m _).1 hm with rfl | hm
        · exact absurd rfl e
        · exact ⟨m, hm, rfl⟩
  · rcases (Po.mem_put L x m _).1 hm with rfl | hm
    · rw [atKey_put_same ht.isMap (kI_key _)]
    · rw [atKey_put_other (kI_ne fun e => ?_), h.at_ m hm]
      rw [← e, Po.there_of hr hm] at hx
      cases hx
/-- Whoever is there is another one of the same ID. -/
theorem MapM.set {D : DataW Unit} {L : List Mem} (h : MapM D L) (ht : Tidy D) (hr : Po.Rises L) {i : Nat} {m x : Mem} (hm : L[i]? = some m) (hx : x.id = m.id) : MapM (D.put (kI (m.id : Int)) x.dat) (L.set i x) := by
  have hmem := List.mem_of_getElem? hm
  have hi : i < L.length := (List.getElem?_eq_some_iff.1 hm).1
  have hr' := Po.rises_set L i m x hr hm hx
  have hxm : x ∈ L.set i x := List.mem_iff_getElem?.2 ⟨i, by rw [List.getElem?_set_self hi]⟩
  refine ⟨?_, fun id => ?_, fun y hy z => ?_⟩
  · rw [Maps.size_put ht, h.has, Po.there_of hr hmem, h.size, List.length_set]
    simp
  · by_cases e : id = (m.id : Int)
    · subst e
      rw [has_put_same ht.isMap (kI_key _), ← hx]
      exact (Po.there_of hr' hxm).symm
    · rw [has_put_other (kI_ne e), h.has]
      rw [Bool.eq_iff_iff, Po.there_iff hr, Po.there_iff hr']
      constructor
      · rintro ⟨y, hy, rfl⟩
        by_cases e2 : y = m
        · subst e2; exact absurd rfl e
        · exact ⟨y, Po.mem_set_ne L i m x y hm hy e2, rfl⟩
      · rintro ⟨y, hy, rfl⟩
        rcases List.mem_or_eq_of_mem_set hy with hy | rfl
        · exact ⟨y, hy, rfl⟩
        · exact absurd (by rw [hx]) e
  · by_cases e : y.id = m.id
    · rw [← e, atKey_put_same ht.isMap (kI_key _), Po.uniq _ hr' x y hxm hy (by rw [hx, e])]
    · rw [atKey_put_other (kI_ne (by omega))]
      rcases List.mem_or_eq_of_mem_set hy with hy | rfl
      · exact h.at_ y hy z
      · exact absurd hx e
/-- Somebody goes. -/
theorem MapM.erase {D : DataW Unit} {L : List Mem} (h : MapM D L) (ht : Tidy D) (hr : Po.Rises L) {i : Nat} {m : Mem} (hm : L[i]? = some m) : MapM (D.del (kI (m.id : Int))) (L.eraseIdx i) := by
  have hmem := List.mem_of_getElem? hm
  have hi : i < L.length := (List.getElem?_eq_some_iff.1 hm).1
  have hr' := Po.rises_erase hr i
  have hgone : ∀ y ∈ L.eraseIdx i, y.id ≠ m.id := fun y hy e => by
    have hyL : y ∈ L := List.mem_of_mem_eraseIdx hy
    have e1 : y = m := Po.uniq L hr y m hyL hmem e
    subst e1
    obtain ⟨j, hj⟩ := List.mem_iff_getElem?.1 hy
    rw [List.getElem?_eraseIdx] at hj
    have lt : ∀ {a b : Nat} {x y : Mem}, L[a]? = some x → L[b]? = some y → a < b → x.id < y.id := fun {a b x y} ha hb hab => by
      obtain ⟨ha1, ha2⟩ := List.getElem?_eq_some_iff.1 ha
      obtain ⟨hb1, hb2⟩ := List.getElem?_eq_some_iff.1 hb
      have := List.pairwise_iff_getElem.1 hr a b ha1 hb1 hab
      rw [ha2, hb2] at this
      exact this
    split at hj
    · rename_i h1
      have := lt hj hm h1
      omega
    · rename_i h1
      have := lt hm hj (by omega)
      omega
  refine ⟨?_, fun id => ?_, fun y hy z => ?_⟩
  · have := Maps.size_del ht (k := kI (m.id : Int))
    rw [h.has, Po.there_of hr hmem, h.size] at this
    rw [List.length_eraseIdx, if_pos hi]
    simp only [if_true] at this
    omega
  · by_cases e : id = (m.id : Int)
    · subst e
      rw [has_del_same]
      refine (Bool.eq_false_iff.2 fun ht' => ?_).symm
      obtain ⟨y, hy, hid⟩ := (Po.there_iff hr' _).1 ht'
      exact hgone y hy (by omega)
    · rw [has_del_other (kI_ne e), h.has]
      rw [Bool.eq_iff_iff, Po.there_iff hr, Po.there_iff hr']
      constructor
      · rintro ⟨y, hy, rfl⟩
        by_cases e2 : y = m
        · subst e2; exact absurd rfl e
        · exact ⟨y, Po.mem_erase_ne L i m y hm hy e2, rfl⟩
      · rintro ⟨y, hy, rfl⟩
        exact ⟨y, List.mem_of_mem_eraseIdx hy, rfl⟩
  · rw [atKey_del_other (kI_ne fun e => hgone y hy (by omega))]
    exact h.at_ y (List.mem_of_mem_eraseIdx hy) z
/-- A bucket is somebody's, is nobody's. -/
theorem MapO.put {D : DataW Unit} {room n : Nat} {own : Nat → Nat} (h : MapO D room own n) (ht : Tidy D) (k id : Nat) (hk : k < room) (ho : own k = 0) (hid : id ≠ 0) : MapO (D.put (kI (k : Int)) (.lit (kI (id : Int)))) room (upd own k id) (n + 1) := by
  refine ⟨?_, fun j hj => ?_, fun j hj hne z => ?_⟩
  · rw [Maps.size_put ht, h.has k hk, ho, h.size]; rfl
  · by_cases e : j = k
    · subst e
      rw [has_put_same ht.isMap (kI_key _), upd_same]; simp [hid]
    · rw [has_put_other (kI_ne (by omega)), h.has j hj, upd_other _ _ _ _ e]
  · by_cases e : j = k
    · subst e
      rw [atKey_put_same ht.isMap (kI_key _), upd_same]
    · rw [upd_other _ _ _ _ e] at hne ⊢
      rw [atKey_put_other (kI_ne (by omega)), h.at_ j hj hne]
theorem MapO.del {D : DataW Unit} {room n : Nat} {own : Nat → Nat} (h : MapO D room own n) (ht : Tidy D) (k : Nat) (hk : k < room) (ho : own k ≠ 0) : MapO (D.del (kI (k : Int))) room (upd own k 0) (n - 1) := by
  refine ⟨?_, fun j hj => ?_, fun j hj hne z => ?_⟩
  · have := Maps.size_del ht (k := kI (k : Int))
    rw [h.has k hk, h.size] at this
    simp only [ho, ne_eq, not_false_iff, decide_true, if_true] at this
    omega
  · by_cases e : j = k
    · subst e
      rw [has_del_same, upd_same]; rfl
    · rw [has_del_other (kI_ne (by omega)), h.has j hj, upd_other _ _ _ _ e]
  · by_cases e : j = k
    · subst e
      rw [upd_same] at hne
      exact absurd rfl hne
    · rw [upd_other _ _ _ _ e] at hne ⊢
      rw [atKey_del_other (kI_ne (by omega)), h.at_ j hj hne]

structure QBk where
  p : Nat
  bk : Bk
  m : Nat
  o : Nat
/-- The struct's cells. -/
def hdQ (key : ByteArray) (b : QBk) : List Value := [.string key, .pointer (some ⟨b.bk.p, 0, none⟩), .map (some b.m), .map (some b.o)]
/-- All its blocks. -/
def qfeet (b : QBk) (v : Value) : List Nat := b.p :: b.m :: b.o :: feet b.bk v
def OwnM (W : World) (b : Nat) (L : List Mem) : Prop := ∃ D, W.ownsMap Try.prog 3 Rm b (Maps.size D) D ∧ MapM D L
def OwnO (W : World) (b room : Nat) (own : Nat → Nat) (n : Nat) : Prop := ∃ D : DataW Unit, W.ownsMap Try.prog 3 (plainElem Try.prog 3) b (Maps.size D) D ∧ MapO D room own n
structure QAt (base : Nat) (W : World) (key : ByteArray) (room : Nat) (b : QBk) (v : Value) (a : An) (L : List Mem) (own : Nat → Nat) (n : Nat) : Prop where
  head : Row W b.p (hdQ key b)
  an : AnAt hdA base W b.bk v a
  mem : OwnM W b.m L
  own : OwnO W b.o room own n
  gp : base ≤ b.p
  gm : base ≤ b.m
  go : base ≤ b.o
  pm : b.p ≠ b.m
  po : b.p ≠ b.o
  mo : b.m ≠ b.o
  pf : b.p ∉ feet b.bk v
  mf : b.m ∉ feet b.bk v
  of : b.o ∉ feet b.bk v
theorem ownsMap_block {k : TypeId} {R : Value → Option (DataW Unit × List MemPlace)} {W W' : World} {b n : Nat} {D : DataW Unit} (h : W.ownsMap Try.prog k R b n D) (e : W'.heap[b]? = W.heap[b]?) : W'.ownsMap Try.prog k R b n D := by
  obtain ⟨es, clock, hb, r⟩ := h
  exact ⟨es, clock, e.trans hb, r⟩
theorem OwnM.of_block {W W' : World} {b : Nat} {L : List Mem} (h : OwnM W b L) (e : W'.heap[b]? = W.heap[b]?) : OwnM W' b L := by
  obtain ⟨D, h1, h2⟩ := h
  exact ⟨D, ownsMap_block h1 e, h2⟩
theorem OwnO.of_block {W W' : World} {b room n : Nat} {own : Nat → Nat} (h : OwnO W b room own n) (e : W'.heap[b]? = W.heap[b]?) : OwnO W' b room own n := by
  obtain ⟨D, h1, h2⟩ := h
  exact ⟨D, ownsMap_block h1 e, h2⟩
theorem OwnM.lt {W : World} {b : Nat} {L : List Mem} (h : OwnM W b L) : b < W.heap.size := by
  obtain ⟨D, h1, _⟩ := h
  exact h1.lt
theorem OwnO.lt {W : World} {b room n : Nat} {own : Nat → Nat} (h : OwnO W b room own n) : b < W.heap.size := by
  obtain ⟨D, h1, _⟩ := h
  exact h1.lt
section
variable {base : Nat} {W W' : World} {key : ByteArray} {room : Nat} {b : QBk} {v v' : Value} {a a' : An} {L L' : List Mem} {own own' : Nat → Nat} {n n' : Nat}
theorem QAt.lt (h : QAt base W key room b v a L own n) : ∀ x ∈ qfeet b v, base ≤ x ∧ x < W.heap.size := by
  intro x hx
  unfold qfeet at hx
  rcases List.mem_cons.1 hx with rfl | hx
  · exact ⟨h.gp, h.head.lt⟩
  rcases List.mem_cons.1 hx with rfl | hx
  · exact ⟨h.gm, h.mem.lt⟩
  rcases List.mem_cons.1 hx with rfl | hx
  · exact ⟨h.go, h.own.lt⟩
  · exact h.an.lt x hx
theorem QAt.of_blocks (h : QAt base W key room b v a L own n) (e : ∀ x ∈ qfeet b v, W'.heap[x]? = W.heap[x]?) : QAt base W' key room b v a L own n :=
  ⟨h.head.of_block (e _ (by simp [qfeet])), h.an.of_blocks fun x hx => e x (by simp [qfeet, hx]), h.mem.of_block (e _ (by simp [qfeet])), h.own.of_block (e _ (by simp [qfeet])), h.gp, h.gm, h.go, h.pm, h.po, h.mo, h.pf, h.mf, h.of⟩
theorem QAt.on (h : QAt base W key room b v a L own n) (hb : Below W.heap.size W W') : QAt base W' key room b v a L own n := h.of_blocks fun x hx => hb.block x (h.lt x hx).2
theorem QAt.drew (h : QAt base W key room b v a L own n) : QAt base W.drew key room b v a L own n := h.of_blocks fun _ _ => rfl
theorem QAt.drewN (h : QAt base W key room b v a L own n) (j : Nat) : QAt base (W.drewN j) key room b v a L own n := h.of_blocks fun _ _ => rfl
theorem QAt.cells (h : QAt base W key room b v a L own n) : W.cell? ⟨b.p, 0, none⟩ = some (.string key) ∧ W.cell? ⟨b.p, 1, none⟩ = some (.pointer (some ⟨b.bk.p, 0, none⟩)) ∧ W.cell? ⟨b.p, 2, none⟩ = some (.map (some b.m)) ∧ W.cell? ⟨b.p, 3, none⟩ = some (.map (some b.o)) :=
  ⟨h.head.cell 0 _ rfl, h.head.cell 1 _ rfl, h.head.cell 2 _ rfl, h.head.cell 3 _ rfl⟩
/-- How many are active. -/
theorem QAt.len (h : QAt base W key room b v a L own n) (ty : TypeId) : (Builtin.len_ #[61] ty #[.map (some b.o)]).run Try.prog W = .ok (.int .i64 (n : Int)) W := by
  obtain ⟨D, h1, h2⟩ := h.own
  rw [h1.len Try.underlying61 ty, h2.size]
/-- Who is asked for by an ID. -/
theorem QAt.look_yes (h : QAt base W key room b v a L own n) (hs : Po.Rises L) (hI : ∀ m ∈ L, 1 ≤ m.id ∧ m.id ≤ 65535) {m : Mem} (hm : m ∈ L) : (Instr.lookup 71 (.map (some b.m)) (.int .i64 (m.id : Int)) true).run Try.prog W = .ok (.tuple #[m.val, .bool true]) W := by
  obtain ⟨D, h1, h2⟩ := h.mem
  have hid := hI m hm
  obtain ⟨u, ps, k1, k2⟩ := h1.look_ok lawM Try.underlying71 (zeroM W) (Rm_mk noMem) (key_mk (x := (m.id : Int)) (by omega))
  rw [h2.at_ m hm] at k2
  rw [k1, Rm_inv k2, h2.has, Po.there_of hs hm]
theorem QAt.look_no (h : QAt base W key room b v a L own n) {id : Int} (hi : -9223372036854775808 ≤ id ∧ id ≤ 9223372036854775807) (ht : Po.there L id = false) : (Instr.lookup 71 (.map (some b.m)) (.int .i64 id) true).run Try.prog W = .ok (.tuple #[.agg #[.int .i64 0, .int .u32 0, .int .i64 0, .int .i64 0, .int .i64 0], .bool false]) W := by
  obtain ⟨D, h1, h2⟩ := h.mem
  obtain ⟨u, ps, k1, k2⟩ := h1.look_ok lawM Try.underlying71 (zeroM W) (Rm_mk noMem) (key_mk hi)
  rw [h2.none ht] at k2
  rw [k1, Rm_inv k2, h2.has, ht]
  rfl
theorem QAt.get (h : QAt base W key room b v a L own n) (hI : ∀ m ∈ L, 1 ≤ m.id ∧ m.id ≤ 65535) {m : Mem} (hm : m ∈ L) : (Instr.lookup 71 (.map (some b.m)) (.int .i64 (m.id : Int)) false).run Try.prog W = .ok m.val W := by
  obtain ⟨D, h1, h2⟩ := h.mem
  have hid := hI m hm
  obtain ⟨u, ps, k1, k2⟩ := h1.lookup lawM Try.underlying71 (zeroM W) (Rm_mk noMem) (key_mk (x := (m.id : Int)) (by omega))
  rw [h2.at_ m hm] at k2
  rw [k1, Rm_inv k2]
/-- Whose a bucket is. -/
theorem QAt.whose (h : QAt base W key room b v a L own n) (hr : room ≤ 65536) {k : Nat} (hk : k < room) (ho : own k ≠ 0) : (Instr.lookup 61 (.map (some b.o)) (.int .i64 (k : Int)) false).run Try.prog W = .ok (.int .i64 (own k : Int)) W := by
  obtain ⟨D, h1, h2⟩ := h.own
  obtain ⟨c, k1, k2, _⟩ := h1.lookup_int lawM Try.underlying61 Try.underlying3 (zeroN W) (key_mk (x := (k : Int)) (by omega))
  rw [h2.at_ k hk ho] at k2
  have k3 := (DataW.lit.inj k2)
  have k4 := (Lit.int.inj k3).2
  exact k4 ▸ k1
end

/-- What a change of the pool leaves: all but its own blocks; what is new is new. -/
structure QWent (W W' : World) (b : QBk) (v v' : Value) : Prop where
  but : But (qfeet b v) W W'
  new : ∀ x ∈ qfeet b v', x ∈ qfeet b v ∨ W.heap.size ≤ x
section
variable {U V W W' : World} {b : QBk} {v v' v'' : Value} {base : Nat} {key : ByteArray} {room : Nat} {a a' : An} {L L' : List Mem} {own own' : Nat → Nat} {n n' : Nat}
theorem QWent.refl (W : World) (b : QBk) (v : Value) : QWent W W b v v := ⟨But.refl _ _, fun _ h => .inl h⟩
theorem QWent.of (h : Below W.heap.size W W') (b : QBk) (v : Value) : QWent W W' b v v := ⟨But.of h, fun _ h => .inl h⟩
theorem QWent.trans (h : QWent U V b v v') (k : QWent V W b v' v'') : QWent U W b v v'' := by
  refine ⟨⟨k.but.os.trans h.but.os, k.but.tape.trans h.but.tape, k.but.output.trans h.but.output, Nat.le_trans h.but.size k.but.size, fun x hx hn => ?_⟩, fun x hx => ?_⟩
  · have hnx : x ∉ qfeet b v' := fun hx' => by
      rcases h.new x hx' with h1 | h1
      · exact hn h1
      · omega
    exact (k.but.block x (Nat.lt_of_lt_of_le hx h.but.size) hnx).trans (h.but.block x hx hn)
  · rcases k.new x hx with h1 | h1
    · exact h.new x h1
    · exact .inr (Nat.le_trans h.but.size h1)
theorem QWent.on (h : QWent U V b v v') (hb : Below V.heap.size V W) : QWent U W b v v' := h.trans (QWent.of hb b v')
/-- The members' map turned. -/
theorem QAt.members (h : QAt base W key room b v a L own n) (hg : W.grownBy W' (some b.m)) (hM : OwnM W' b.m L') : QAt base W' key room b v a L' own n ∧ QWent W W' b v v := by
  have e : ∀ x, x < W.heap.size → x ≠ b.m → W'.heap[x]? = W.heap[x]? := fun x hx hn => hg.block x hx fun e => hn (by injection e)
  exact ⟨⟨h.head.of_block (e _ h.head.lt h.pm), h.an.of_blocks fun x hx => e x (h.an.lt x hx).2 fun e => h.mf (e ▸ hx), hM, h.own.of_block (e _ h.own.lt h.mo.symm), h.gp, h.gm, h.go, h.pm, h.po, h.mo, h.pf, h.mf, h.of⟩, ⟨hg.os, hg.tape, hg.output, hg.size, fun x hx hn => e x hx fun e => hn (by simp [qfeet, e])⟩, fun _ h => .inl h⟩
/-- The owners' map turned. -/
theorem QAt.owners (h : QAt base W key room b v a L own n) (hg : W.grownBy W' (some b.o)) (hO : OwnO W' b.o room own' n') : QAt base W' key room b v a L own' n' ∧ QWent W W' b v v := by
  have e : ∀ x, x < W.heap.size → x ≠ b.o → W'.heap[x]? = W.heap[x]? := fun x hx hn => hg.block x hx fun e => hn (by injection e)
  exact ⟨⟨h.head.of_block (e _ h.head.lt h.po), h.an.of_blocks fun x hx => e x (h.an.lt x hx).2 fun e => h.of (e ▸ hx), h.mem.of_block (e _ h.mem.lt h.mo), hO, h.gp, h.gm, h.go, h.pm, h.po, h.mo, h.pf, h.mf, h.of⟩, ⟨hg.os, hg.tape, hg.output, hg.size, fun x hx hn => e x hx fun e => hn (by simp [qfeet, e])⟩, fun _ h => .inl h⟩
/-- The anchor turned. -/
theorem QAt.anchor (h : QAt base W key room b v a L own n) (hA : AnAt hdA base W' b.bk v' a') (hw : Went W W' b.bk v v') : QAt base W' key room b v' a' L own n ∧ QWent W W' b v v' := by
  have keep : ∀ x, x ∉ feet b.bk v → x < W.heap.size → W'.heap[x]? = W.heap[x]? := fun x hx hl => hw.but.block x hl hx
  have off : ∀ x, x ∉ feet b.bk v → x < W.heap.size → x ∉ feet b.bk v' := fun x hx hl hx' => by
    rcases hw.feet x hx' with h1 | h1
    · exact hx h1
    · omega
  refine ⟨⟨h.head.of_block (keep _ h.pf h.head.lt), hA, h.mem.of_block (keep _ h.mf h.mem.lt), h.own.of_block (keep _ h.of h.own.lt), h.gp, h.gm, h.go, h.pm, h.po, h.mo, off _ h.pf h.head.lt, off _ h.mf h.mem.lt, off _ h.of h.own.lt⟩, hw.but.more fun x hx => by simp [qfeet, hx], fun x hx => ?_⟩
  unfold qfeet at hx ⊢
  simp only [List.mem_cons] at hx ⊢
  rcases hx with hx | hx | hx | hx
  · exact .inl (.inl hx)
  · exact .inl (.inr (.inl hx))
  · exact .inl (.inr (.inr (.inl hx)))
  · rcases hw.feet x hx with h | h
    · exact .inl (.inr (.inr (.inr h)))
    · exact .inr h
theorem QWent.below {w : World} (hw : Below w.heap.size w W) (h : QWent W W' b v v') (ha : QAt base W key room b v a L own n) (hb : w.heap.size ≤ base) : Below w.heap.size w W' :=
  ⟨h.but.os.trans hw.os, h.but.tape.trans hw.tape, h.but.output.trans hw.output, Nat.le_trans hw.size h.but.size, fun x hx => (h.but.block x (Nat.lt_of_lt_of_le hx hw.size) fun hf => by
    have := (ha.lt x hf).1
    omega).trans (hw.block x hx)⟩
/-- A store into what is no block of the pool's. -/
theorem QAt.aside (h : QAt base W key room b v a L own n) {x : Nat} (hx : x ∉ qfeet b v) (i : Nat) (u : Value) : QAt base (W.setCell ⟨x, i, none⟩ u) key room b v a L own n :=
  h.of_blocks fun y hy => Below.heap_setCell _ _ _ _ fun e => hx (by have e : y = x := e; rw [← e]; exact hy)
theorem QWent.aside (h : QWent U V b v v') {x : Nat} (hx : U.heap.size ≤ x) (i : Nat) (u : Value) : QWent U (V.setCell ⟨x, i, none⟩ u) b v v' :=
  ⟨⟨h.but.os, h.but.tape, h.but.output, by simpa [World.setCell] using h.but.size, fun k hk hn => (Below.heap_setCell _ _ _ _ fun e => by have e : k = x := e; omega).trans (h.but.block k hk hn)⟩, h.new⟩
theorem QWent.drewN (h : QWent U V b v v') (j : Nat) : QWent U (V.drewN j) b v v' := ⟨h.but.drewN j, h.new⟩
/-- What was no block of the pool's is none behind a change. -/
theorem QWent.off (h : QWent U V b v v') {x : Nat} (hx : x ∉ qfeet b v) (hl : x < U.heap.size) : x ∉ qfeet b v' := fun hf => by
  rcases h.new _ hf with h | h
  · exact hx h
  · omega
end
end Go.Proofs.Ytckkdgifjgkoaaa
