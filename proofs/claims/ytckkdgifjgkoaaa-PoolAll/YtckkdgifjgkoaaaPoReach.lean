/- The reference's pool of chapter 13, of whatever is reached: one answer each, and what is reached then. -/
import Derived.Test.YtckkdgifjgkoaaaPoKeep
import Derived.Test.YtckkdgifjgkoaaaPoChoose
namespace Go.Proofs.Ytckkdgifjgkoaaa
open Go.ChangeShapes Go.WideShapes Go.ChangeAt Go.RowKit An

/-- A pool: its anchor, who is there, whose the buckets are. -/
structure Pl where
  a : An
  L : List Mem
  own : Nat → Nat
namespace Po
theorem length_le : ∀ (L : List Mem) (lo N : Nat), Rises L → (∀ m ∈ L, lo ≤ m.id ∧ m.id ≤ N) → L.length ≤ N + 1 - lo
  | [], _, _, _, _ => Nat.zero_le _
  | a :: L, lo, N, hs, hr => by
    have hs' := List.pairwise_cons.1 hs
    have ha := hr a List.mem_cons_self
    have ih := length_le L (a.id + 1) N hs'.2 fun m hm => ⟨hs'.1 m hm, (hr m (List.mem_cons_of_mem _ hm)).2⟩
    rw [List.length_cons]
    omega
instance (id port : Int) : Decidable (Fine id port) := by unfold Fine; infer_instance
/-- What Add answers, and what is there then. -/
def putE (room : Nat) (p : Pl) (id port : Int) : Int := if ¬ Fine id port then 1 else if there p.L id = true then 20 else if active p.L = room then 16 else 0
def putK (p : Pl) : Nat := if active p.L = 0 then p.a.W 0 else (addB p.a).toNat
def putP (room : Nat) (p : Pl) (id addr port : Int) : Pl :=
  if putE room p id port = 0 then ⟨if active p.L = 0 then p.a else addS p.a, p.L.take (place p.L id) ++ Mem.mk id.toNat addr.toNat port.toNat 1 (putK p) :: p.L.drop (place p.L id), upd p.own (putK p) id.toNat⟩ else p
/-- Drain. -/
def drainE (p : Pl) (id : Int) : Int := match p.L[place p.L id]? with | some m => if (m.id : Int) = id then (if m.st = 1 then 0 else 15) else 19 | none => 19
def drainP (p : Pl) (id : Int) : Pl := match p.L[place p.L id]? with | some m => if (m.id : Int) = id ∧ m.st = 1 then ⟨leaveS p.a p.L m.bk, p.L.set (place p.L id) (off m), upd p.own m.bk 0⟩ else p | none => p
/-- Remove. -/
def goneE (p : Pl) (id : Int) : Int := if there p.L id = true then 0 else 19
def goneP (p : Pl) (id : Int) : Pl := match p.L[place p.L id]? with | some m => if (m.id : Int) = id then (if m.st = 1 then ⟨leaveS p.a p.L m.bk, p.L.eraseIdx (place p.L id), upd p.own m.bk 0⟩ else ⟨p.a, p.L.eraseIdx (place p.L id), p.own⟩) else p | none => p
/-- Get. -/
def getV (p : Pl) (id : Int) : Value := match p.L[place p.L id]? with | some m => if (m.id : Int) = id then .tuple #[m.back, .int .i64 (m.st : Int), .int .i64 0] else .tuple #[noBack, .int .i64 0, .int .i64 19] | none => .tuple #[noBack, .int .i64 0, .int .i64 19]
/-- Where an ID stands, and who there. -/
theorem there_cases (L : List Mem) (id : Int) : (there L id = true ∧ ∃ m, L[place L id]? = some m ∧ (m.id : Int) = id) ∨ (there L id = false ∧ ∀ m, L[place L id]? = some m → (m.id : Int) ≠ id) := by
  unfold there
  cases e : L[place L id]? with
  | none => exact .inr ⟨rfl, fun m h => by cases h⟩
  | some m =>
    by_cases h : (m.id : Int) = id
    · exact .inl ⟨by simpa using h, m, rfl, h⟩
    · exact .inr ⟨by simpa using h, fun m' h' => by cases h'; exact h⟩
end Po
section
variable {base : Nat} {w : World} {key : ByteArray} {room : Nat} {b : RBk} {v vL : Value} {p : Pl}
theorem PInv.len (h : PInv room p.a p.L p.own) : p.L.length ≤ 1000000 := by
  have := Po.length_le p.L 1 65535 h.ids h.idr
  omega
theorem rdrain_any (h : RAt base w key room b v vL p.a p.L p.own) (hI : PInv room p.a p.L p.own) (hr : room ≤ 65536) (id : Int) :
    Calls Try.prog 26 #[.pointer (some ⟨b.p, 0, none⟩), .int .i64 id] w fun e w' => e = .returned (.int .i64 (Po.drainE p id)) ∧
      ∃ v', RAt base w' key room b v' vL (Po.drainP p id).a (Po.drainP p id).L (Po.drainP p id).own ∧ PWent w w' b v vL v' vL := by
  unfold Po.drainE Po.drainP
  rcases Po.there_cases p.L id with ⟨ht, m, hm, hid⟩ | ⟨ht, hno⟩
  · by_cases hs : m.st = 1
    · have hmem := List.mem_of_getElem? hm
      refine (rdrain_ok h hI.reach hr hI.len id ht m hm hs (hI.act m hmem hs).1).mono ?_
      rintro e w' ⟨rfl, v', h1, h2⟩
      rw [hm]
      simp only [hid, hs, if_true, true_and]
      first | exact ⟨trivial, v', h1, h2⟩ | exact ⟨v', h1, h2⟩ | exact ⟨rfl, v', h1, h2⟩
    · refine (rdrain_state h hI.len id ht m hm hs).mono ?_
      rintro e w' ⟨rfl, n, rfl⟩
      rw [hm]
      simp only [hid, hs, if_true, if_false, true_and]
      first | exact ⟨trivial, v, h.drewN n, (PWent.refl w b v vL).drewN n⟩ | exact ⟨v, h.drewN n, (PWent.refl w b v vL).drewN n⟩ | exact ⟨rfl, v, h.drewN n, (PWent.refl w b v vL).drewN n⟩
  · refine (rdrain_none h hI.len id ht).mono ?_
    rintro e w' ⟨rfl, n, rfl⟩
    cases e : p.L[Po.place p.L id]? with
    | none => exact ⟨rfl, v, h.drewN n, (PWent.refl w b v vL).drewN n⟩
    | some m =>
      have hne := hno m e
      simp only [hne, if_false, false_and]
      first | exact ⟨trivial, v, h.drewN n, (PWent.refl w b v vL).drewN n⟩ | exact ⟨v, h.drewN n, (PWent.refl w b v vL).drewN n⟩ | exact ⟨rfl, v, h.drewN n, (PWent.refl w b v vL).drewN n⟩
theorem drain_inv (hI : PInv room p.a p.L p.own) (id : Int) : PInv room (Po.drainP p id).a (Po.drainP p id).L (Po.drainP p id).own := by
  unfold Po.drainP
  cases e : p.L[Po.place p.L id]? with
  | none => exact hI
  | some m =>
    by_cases hc : (m.id : Int) = id ∧ m.st = 1
    · simp only [hc, and_self, if_true]
      exact hI.drain e hc.2
    · simp only [hc, if_false]
      exact hI
theorem rgone_any (h : RAt base w key room b v vL p.a p.L p.own) (hI : PInv room p.a p.L p.own) (hr : room ≤ 65536) (id : Int) :
    Calls Try.prog 27 #[.pointer (some ⟨b.p, 0, none⟩), .int .i64 id] w fun e w' => e = .returned (.int .i64 (Po.goneE p id)) ∧
      ∃ v' vL', RAt base w' key room b v' vL' (Po.goneP p id).a (Po.goneP p id).L (Po.goneP p id).own ∧ PWent w w' b v vL v' vL' := by
  unfold Po.goneE Po.goneP
  rcases Po.there_cases p.L id with ⟨ht, m, hm, hid⟩ | ⟨ht, hno⟩
  · rw [if_pos ht]
    by_cases hs : m.st = 1
    · have hmem := List.mem_of_getElem? hm
      refine (rgone_ok h hI.reach hr hI.len id ht m hm hs (hI.act m hmem hs).1).mono ?_
      rintro e w' ⟨rfl, v', vL', h1, h2⟩
      rw [hm]
      simp only [hid, hs, if_true]
      first | exact ⟨trivial, v', vL', h1, h2⟩ | exact ⟨v', vL', h1, h2⟩ | exact ⟨rfl, v', vL', h1, h2⟩
    · refine (rgone_idle h hI.len id ht m hm hs).mono ?_
      rintro e w' ⟨rfl, vL', h1, h2⟩
      rw [hm]
      simp only [hid, hs, if_true, if_false]
      first | exact ⟨trivial, v, vL', h1, h2⟩ | exact ⟨v, vL', h1, h2⟩ | exact ⟨rfl, v, vL', h1, h2⟩
  · rw [if_neg (by rw [ht]; decide)]
    refine (rgone_none h hI.len id ht).mono ?_
    rintro e w' ⟨rfl, n, rfl⟩
    cases e : p.L[Po.place p.L id]? with
    | none => exact ⟨rfl, v, vL, h.drewN n, (PWent.refl w b v vL).drewN n⟩
    | some m =>
      have hne := hno m e
      simp only [hne, if_false]
      first | exact ⟨trivial, v, vL, h.drewN n, (PWent.refl w b v vL).drewN n⟩ | exact ⟨v, vL, h.drewN n, (PWent.refl w b v vL).drewN n⟩ | exact ⟨rfl, v, vL, h.drewN n, (PWent.refl w b v vL).drewN n⟩
theorem gone_inv (hI : PInv room p.a p.L p.own) (id : Int) : PInv room (Po.goneP p id).a (Po.goneP p id).L (Po.goneP p id).own := by
  unfold Po.goneP
  cases e : p.L[Po.place p.L id]? with
  | none => exact hI
  | some m =>
    by_cases hc : (m.id : Int) = id
    · by_cases hs : m.st = 1
      · simp only [hc, hs, if_true]
        exact hI.leaves e hs
      · simp only [hc, hs, if_true, if_false]
        exact hI.gone e hs
    · simp only [hc, if_false]
      exact hI
theorem rget_any (h : RAt base w key room b v vL p.a p.L p.own) (hI : PInv room p.a p.L p.own) (id : Int) :
    Calls Try.prog 28 #[.pointer (some ⟨b.p, 0, none⟩), .int .i64 id] w fun e w' => e = .returned (Po.getV p id) ∧ Below w.heap.size w w' := by
  unfold Po.getV
  rcases Po.there_cases p.L id with ⟨ht, m, hm, hid⟩ | ⟨ht, hno⟩
  · refine (rget_ok h hI.len id ht m hm).mono ?_
    rintro e w' ⟨rfl, h1⟩
    rw [hm]
    simp only [hid, if_true]
    exact ⟨trivial, h1⟩
  · refine (rget_none h hI.len id ht).mono ?_
    rintro e w' ⟨rfl, h1⟩
    cases e : p.L[Po.place p.L id]? with
    | none => exact ⟨rfl, h1⟩
    | some m =>
      have hne := hno m e
      simp only [hne, if_false]
      exact ⟨trivial, h1⟩
/-- The one bucket that works, where none is active. -/
theorem PInv.only (h : PInv room p.a p.L p.own) (h0 : Po.active p.L = 0) : p.a.W 0 < room ∧ p.a.A (p.a.W 0) = 0 ∧ ∀ j, j < p.a.W 0 → p.a.A j ≠ 0 := by
  have hn : p.a.n = 1 := by rw [h.cnt, h0]; rfl
  have wf := h.reach.wf
  have h1 := (wf.wl 0 (by omega)).1
  have hroom := h.reach.room
  refine ⟨by have := h1.1; omega, h1.2, fun j hj hA => ?_⟩
  have h2 := wf.lw j ⟨by have := h1.1; omega, hA⟩
  have : p.a.W 0 = j := by rw [← h2.2, show p.a.L j = 0 by omega]
  omega
theorem rput_any (h : RAt base w key room b v vL p.a p.L p.own) (hI : PInv room p.a p.L p.own) (h1 : 1 ≤ room) (hr : room ≤ 65536) (id addr port : Int) (ha : 0 ≤ addr) :
    Calls Try.prog 25 #[.pointer (some ⟨b.p, 0, none⟩), .agg #[.int .i64 id, .int .u32 addr, .int .i64 port]] w fun e w' => e = .returned (.int .i64 (Po.putE room p id port)) ∧
      ∃ v' vL', RAt base w' key room b v' vL' (Po.putP room p id addr port).a (Po.putP room p id addr port).L (Po.putP room p id addr port).own ∧ PWent w w' b v vL v' vL' := by
  unfold Po.putP
  by_cases hf : Fine id port
  · have hn : (id.toNat : Int) = id ∧ (addr.toNat : Int) = addr ∧ (port.toNat : Int) = port := by
      obtain ⟨q1, q2, q3, q4⟩ := hf
      exact ⟨by omega, by omega, by omega⟩
    by_cases ht : Po.there p.L id = true
    · have hE : Po.putE room p id port = 20 := by unfold Po.putE; rw [if_neg (fun h => h hf), if_pos ht]
      rw [hE, if_neg (by decide)]
      refine (rput_exists h hI.len id addr port hf ht).mono ?_
      rintro e w' ⟨rfl, hb⟩
      exact ⟨rfl, v, vL, h.on hb, PWent.of hb b v vL⟩
    · have ht' : Po.there p.L id = false := by simpa using ht
      by_cases hfull : Po.active p.L = room
      · have hE : Po.putE room p id port = 16 := by unfold Po.putE; rw [if_neg (fun h => h hf), if_neg ht, if_pos hfull]
        rw [hE, if_neg (by decide)]
        refine (rput_full h hI.len id addr port hf ht' hfull).mono ?_
        rintro e w' ⟨rfl, hb⟩
        exact ⟨rfl, v, vL, h.on hb, PWent.of hb b v vL⟩
      · have hE : Po.putE room p id port = 0 := by unfold Po.putE; rw [if_neg (fun h => h hf), if_neg ht, if_neg hfull]
        rw [hE, if_pos rfl]
        unfold Po.putK
        by_cases h0 : Po.active p.L = 0
        · rw [if_pos h0, if_pos h0]
          obtain ⟨k1, k2, k3⟩ := hI.only h0
          refine (rput_first h hI.reach.room hr hI.len id addr port hf hn ht' h0 h1 (p.a.W 0) k1 k2 k3).mono ?_
          rintro e w' ⟨rfl, vL', h2, h3⟩
          exact ⟨rfl, v, vL', h2, h3⟩
        · rw [if_neg h0, if_neg h0]
          obtain ⟨k, k1, k2, _⟩ := hI.more (by omega) hfull
          rw [k1, Int.toNat_natCast]
          refine (rput_more h hI.reach hr hI.len id addr port hf hn ht' (by omega) hfull k k2 k1).mono ?_
          rintro e w' ⟨rfl, v', vL', h2, h3⟩
          exact ⟨rfl, v', vL', h2, h3⟩
  · have hE : Po.putE room p id port = 1 := by unfold Po.putE; rw [if_pos hf]
    rw [hE, if_neg (by decide)]
    refine (rput_arg id addr port hf).mono ?_
    rintro e w' ⟨rfl, hb⟩
    exact ⟨rfl, v, vL, h.on hb, PWent.of hb b v vL⟩
theorem put_inv (hI : PInv room p.a p.L p.own) (id addr port : Int) : PInv room (Po.putP room p id addr port).a (Po.putP room p id addr port).L (Po.putP room p id addr port).own := by
  unfold Po.putP
  by_cases hE : Po.putE room p id port = 0
  · rw [if_pos hE]
    unfold Po.putE at hE
    by_cases hf : Fine id port
    · rw [if_neg (fun h => h hf)] at hE
      by_cases ht : Po.there p.L id = true
      · rw [if_pos ht] at hE; cases hE
      · rw [if_neg ht] at hE
        have ht' : Po.there p.L id = false := by simpa using ht
        by_cases hfull : Po.active p.L = room
        · rw [if_pos hfull] at hE; cases hE
        · obtain ⟨q1, q2, q3, q4⟩ := hf
          have hid : ((id.toNat : Nat) : Int) = id := by omega
          unfold Po.putK
          by_cases h0 : Po.active p.L = 0
          · rw [if_pos h0, if_pos h0]
            obtain ⟨k1, k2, _⟩ := hI.only h0
            have := hI.first h0 (Mem.mk id.toNat addr.toNat port.toNat 1 (p.a.W 0)) ⟨by show 1 ≤ id.toNat; omega, by show id.toNat ≤ 65535; omega⟩ rfl k1 k2 (by show Po.there p.L (id.toNat : Int) = false; rw [hid]; exact ht')
            simp only [hid] at this
            exact this
          · rw [if_neg h0, if_neg h0]
            obtain ⟨k, k1, k2, k3⟩ := hI.more (by omega) hfull
            rw [k1, Int.toNat_natCast]
            have := k3 (Mem.mk id.toNat addr.toNat port.toNat 1 k) ⟨by show 1 ≤ id.toNat; omega, by show id.toNat ≤ 65535; omega⟩ rfl rfl (by show Po.there p.L (id.toNat : Int) = false; rw [hid]; exact ht')
            simp only [hid] at this
            exact this
    · rw [if_pos hf] at hE; cases hE
  · rw [if_neg hE]
    exact hI
end
end Go.Proofs.Ytckkdgifjgkoaaa
