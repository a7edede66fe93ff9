/- The program's pool, of whatever is reached: one answer each, and what is reached then; Choose of the reference's too. -/
import Derived.Test.YtckkdgifjgkoaaaPqAdd
import Derived.Test.YtckkdgifjgkoaaaGPd
import Derived.Test.YtckkdgifjgkoaaaPqPick
namespace Go.Proofs.Ytckkdgifjgkoaaa
open Go.ChangeShapes Go.WideShapes Go.ChangeAt Go.RowKit Go.Maps An Sp
namespace Po
/-- Whom Choose answers. -/
def pickM (p : Pl) (key : ByteArray) (t : Tp) : Mem := (p.L[place p.L (p.own (pickB p.a key t) : Int)]?).getD noMem
def pickOk (p : Pl) (t : Tp) : Bool := keyB t && decide (0 < active p.L)
def pickV (p : Pl) (key : ByteArray) (t : Tp) : Value := if pickOk p t = true then .tuple #[(pickM p key t).back, .bool true] else .tuple #[noBack, .bool false]
end Po
section
variable {base : Nat} {w : World} {key : ByteArray} {room : Nat} {b : QBk} {v : Value} {p : Pl}
theorem PInv.pick (hI : PInv room p.a p.L p.own) (h1 : 0 < Po.active p.L) (t : Tp) : pickB p.a key t < room ∧ Po.there p.L (p.own (pickB p.a key t) : Int) = true ∧ p.L[Po.place p.L (p.own (pickB p.a key t) : Int)]? = some (Po.pickM p key t) ∧ Po.pickM p key t ∈ p.L ∧ (Po.pickM p key t).st = 1 ∧ (Po.pickM p key t).bk = pickB p.a key t ∧ (Po.pickM p key t).id = p.own (pickB p.a key t) := by
  have hw := bucket_works hI.reach.wf (gmix (Sp.hash key (keyS t)))
  have hr := hI.reach.room
  have hlt : pickB p.a key t < room := by rw [← hr]; exact hw.1
  obtain ⟨m, h2, h3, h4, h5, h6, h7⟩ := hI.chosen h1 hw (by rw [← hr]; exact hw.1)
  have e : Po.pickM p key t = m := by
    unfold Po.pickM pickB
    rw [h3]; rfl
  rw [e]
  exact ⟨hlt, h2, h3, h4, h5, h6, h7⟩
theorem qpick_any (h : QPl base w key room b v p) (hI : PInv room p.a p.L p.own) (hr : room ≤ 65536) (hkey : key.size = 16) (t : Tp) (ht : t.Wf) :
    Calls Try.prog 16 #[.pointer (some ⟨b.p, 0, none⟩), t.val] w fun e w' => e = .returned (Po.pickV p key t) ∧ Below w.heap.size w w' := by
  unfold Po.pickV Po.pickOk
  by_cases hk : keyB t = true
  · by_cases h1 : 0 < Po.active p.L
    · rw [if_pos (by rw [hk, decide_eq_true h1]; rfl)]
      obtain ⟨k1, k2, k3, k4, k5, k6, k7⟩ := hI.pick (key := key) h1 t
      exact qpick_some h hI.reach.wf hI.reach.room hr hkey hI.idr t ht hk h1 _ k4 k7.symm
    · rw [if_neg (by rw [hk, decide_eq_false h1]; decide)]
      exact qpick_none h t ht (.inr (by omega))
  · have hk' : keyB t = false := by simpa using hk
    rw [if_neg (by rw [hk']; simp)]
    exact qpick_none h t ht (.inl hk')
theorem rpick_any {b : RBk} {vL : Value} (h : RAt base w key room b v vL p.a p.L p.own) (hI : PInv room p.a p.L p.own) (hr : room ≤ 65536) (hkey : key.size = 16) (t : Tp) (ht : t.Wf) :
    Calls Try.prog 29 #[.pointer (some ⟨b.p, 0, none⟩), t.val] w fun e w' => e = .returned (Po.pickV p key t) ∧ Below w.heap.size w w' := by
  unfold Po.pickV Po.pickOk
  have hks : (keyS t).size ≤ 1000000 := by have := keyS_size t; omega
  by_cases hk : keyB t = true
  · have hkk : ∀ u, Calls Try.prog 47 #[t.val] u fun e w' => e = .returned (.tuple #[.string (keyS t), .bool true]) ∧ Below u.heap.size u w' := fun u => by
      have := rkey_any t ht u
      rw [hk] at this
      exact this
    by_cases h1 : 0 < Po.active p.L
    · rw [if_pos (by rw [hk, decide_eq_true h1]; rfl)]
      obtain ⟨k1, k2, k3, k4, k5, k6, k7⟩ := hI.pick (key := key) h1 t
      exact rchoose_some h hI.reach.wf hI.reach.room hr hI.len _ _ _ _ _ _ (Sp.hash key (keyS t)) true hkk (fun u => rhash_yes key (keyS t) u hkey hks) h1 _ _ rfl k1 k2 k3
    · rw [if_neg (by rw [hk, decide_eq_false h1]; decide)]
      exact rchoose_none h hI.len _ _ _ _ _ _ _ hkk (.inr (by omega))
  · have hk' : keyB t = false := by simpa using hk
    rw [if_neg (by rw [hk']; simp)]
    refine rchoose_none h hI.len _ _ _ _ _ (keyS t) false (fun u => ?_) (.inl rfl)
    have := rkey_any t ht u
    rw [hk'] at this
    exact this
theorem qget_any (h : QPl base w key room b v p) (hI : PInv room p.a p.L p.own) (id : Int) (hi : -9223372036854775808 ≤ id ∧ id ≤ 9223372036854775807) :
    Calls Try.prog 20 #[.pointer (some ⟨b.p, 0, none⟩), .int .i64 id] w fun e w' => e = .returned (Po.getV p id) ∧ Below w.heap.size w w' := by
  unfold Po.getV
  rcases Po.there_cases p.L id with ⟨ht, m, hm, hid⟩ | ⟨ht, hno⟩
  · rw [hm]
    simp only [hid, if_true]
    rw [← hid]
    exact qget_yes h hI.ids hI.idr m (List.mem_of_getElem? hm)
  · refine (qget_no h id hi ht).mono ?_
    rintro e w' ⟨rfl, h1⟩
    cases e : p.L[Po.place p.L id]? with
    | none => exact ⟨rfl, h1⟩
    | some m =>
      have hne := hno m e
      simp only [hne, if_false]
      exact ⟨trivial, h1⟩
theorem qdrain_any (h : QPl base w key room b v p) (hI : PInv room p.a p.L p.own) (hr : room ≤ 65536) (id : Int) (hi : -9223372036854775808 ≤ id ∧ id ≤ 9223372036854775807) :
    Calls Try.prog 18 #[.pointer (some ⟨b.p, 0, none⟩), .int .i64 id] w fun e w' => e = .returned (.int .i64 (Po.drainE p id)) ∧
      ∃ v', QPl base w' key room b v' (Po.drainP p id) ∧ QWent w w' b v v' := by
  unfold Po.drainE Po.drainP
  rcases Po.there_cases p.L id with ⟨ht, m, hm, hid⟩ | ⟨ht, hno⟩
  · have hmem := List.mem_of_getElem? hm
    by_cases hs : m.st = 1
    · have hact := hI.act m hmem hs
      have hpos := Po.active_pos p.L m hmem hs
      have hoff := Po.active_off p.L _ m (Po.off m) hm hs (by show (2 : Nat) ≠ 1; decide)
      have hidm := hI.idr m hmem
      have := qdrain_ok h hI.ids hI.idr hI.len hI.reach hr hpos m hm hs hact.1 (by rw [hact.2.2]; omega)
      rw [hid] at this
      refine this.mono ?_
      rintro e w' ⟨rfl, v', h1, h2⟩
      rw [hm]
      simp only [hid, hs, if_true, true_and]
      have ha : Po.active p.L - 1 = Po.active (p.L.set (Po.place p.L id) (Po.off m)) := by omega
      rw [ha] at h1
      first | exact ⟨trivial, v', h1, h2⟩ | exact ⟨v', h1, h2⟩ | exact ⟨rfl, v', h1, h2⟩
    · have := qdrain_state h hI.ids hI.idr m hmem hs
      rw [hid] at this
      refine this.mono ?_
      rintro e w' ⟨rfl, hb⟩
      rw [hm]
      simp only [hid, hs, if_true, if_false, and_false]
      first | exact ⟨trivial, v, h.on hb, QWent.of hb b v⟩ | exact ⟨v, h.on hb, QWent.of hb b v⟩ | exact ⟨rfl, v, h.on hb, QWent.of hb b v⟩
  · refine (qdrain_no h id hi ht).mono ?_
    rintro e w' ⟨rfl, hb⟩
    cases e : p.L[Po.place p.L id]? with
    | none => exact ⟨rfl, v, h.on hb, QWent.of hb b v⟩
    | some m =>
      have hne := hno m e
      simp only [hne, if_false, false_and]
      first | exact ⟨trivial, v, h.on hb, QWent.of hb b v⟩ | exact ⟨v, h.on hb, QWent.of hb b v⟩ | exact ⟨rfl, v, h.on hb, QWent.of hb b v⟩
theorem qgone_any (h : QPl base w key room b v p) (hI : PInv room p.a p.L p.own) (hr : room ≤ 65536) (id : Int) (hi : -9223372036854775808 ≤ id ∧ id ≤ 9223372036854775807) :
    Calls Try.prog 19 #[.pointer (some ⟨b.p, 0, none⟩), .int .i64 id] w fun e w' => e = .returned (.int .i64 (Po.goneE p id)) ∧
      ∃ v', QPl base w' key room b v' (Po.goneP p id) ∧ QWent w w' b v v' := by
  unfold Po.goneE Po.goneP
  rcases Po.there_cases p.L id with ⟨ht, m, hm, hid⟩ | ⟨ht, hno⟩
  · rw [if_pos ht]
    have hmem := List.mem_of_getElem? hm
    have her := Po.active_erase p.L _ m hm
    by_cases hs : m.st = 1
    · have hact := hI.act m hmem hs
      have hpos := Po.active_pos p.L m hmem hs
      have hidm := hI.idr m hmem
      have := qgone_ok h hI.ids hI.idr hI.reach hr hpos m hm hs hact.1 (by rw [hact.2.2]; omega)
      rw [hid] at this
      refine this.mono ?_
      rintro e w' ⟨rfl, v', h1, h2⟩
      rw [if_pos hs] at her
      rw [hm]
      simp only [hid, hs, if_true]
      have ha : Po.active p.L - 1 = Po.active (p.L.eraseIdx (Po.place p.L id)) := by omega
      rw [ha] at h1
      first | exact ⟨trivial, v', h1, h2⟩ | exact ⟨v', h1, h2⟩ | exact ⟨rfl, v', h1, h2⟩
    · have := qgone_idle h hI.ids hI.idr m hm hs
      rw [hid] at this
      refine this.mono ?_
      rintro e w' ⟨rfl, h1, h2⟩
      rw [if_neg hs] at her
      rw [hm]
      simp only [hid, hs, if_true, if_false]
      have ha : Po.active p.L = Po.active (p.L.eraseIdx (Po.place p.L id)) := by omega
      rw [ha] at h1
      first | exact ⟨trivial, v, h1, h2⟩ | exact ⟨v, h1, h2⟩ | exact ⟨rfl, v, h1, h2⟩
  · rw [if_neg (by rw [ht]; decide)]
    refine (qgone_no h id hi ht).mono ?_
    rintro e w' ⟨rfl, hb⟩
    cases e : p.L[Po.place p.L id]? with
    | none => exact ⟨rfl, v, h.on hb, QWent.of hb b v⟩
    | some m =>
      have hne := hno m e
      simp only [hne, if_false]
      first | exact ⟨trivial, v, h.on hb, QWent.of hb b v⟩ | exact ⟨v, h.on hb, QWent.of hb b v⟩ | exact ⟨rfl, v, h.on hb, QWent.of hb b v⟩
theorem qput_any (h : QPl base w key room b v p) (hI : PInv room p.a p.L p.own) (hr : room ≤ 65536) (id addr port : Int) (ha : 0 ≤ addr) :
    Calls Try.prog 15 #[.pointer (some ⟨b.p, 0, none⟩), .agg #[.int .i64 id, .int .u32 addr, .int .i64 port]] w fun e w' => e = .returned (.int .i64 (Po.putE room p id port)) ∧
      ∃ v', QPl base w' key room b v' (Po.putP room p id addr port) ∧ QWent w w' b v v' := by
  unfold Po.putP
  by_cases hf : Fine id port
  · by_cases ht : Po.there p.L id = true
    · have hE : Po.putE room p id port = 20 := by unfold Po.putE; rw [if_neg (fun h => h hf), if_pos ht]
      rw [hE, if_neg (by decide)]
      obtain ⟨m, hm, hid⟩ := (Po.there_iff hI.ids id).1 ht
      refine (qput_exists h hI.ids hI.idr m hm id addr port hid hf).mono ?_
      rintro e w' ⟨rfl, hb⟩
      exact ⟨rfl, v, h.on hb, QWent.of hb b v⟩
    · have ht' : Po.there p.L id = false := by simpa using ht
      have hb0 := addW_below w id addr port
      have q0 := h.on hb0
      by_cases hfull : Po.active p.L = room
      · have hE : Po.putE room p id port = 16 := by unfold Po.putE; rw [if_neg (fun h => h hf), if_neg ht, if_pos hfull]
        rw [hE, if_neg (by decide)]
        have hst := hI.reach.stack
        have hc := hI.cnt
        have hn1 := hI.reach.wf.n1
        have hnr := hI.reach.wf.nr
        have hroom := hI.reach.room
        have hS : p.a.S = [] := List.eq_nil_of_length_eq_zero (by omega)
        have e1 : addE p.a = 16 := by unfold addE; rw [hS]
        have e2 : addS p.a = p.a := by unfold addS; rw [hS]
        have hpos : 0 < Po.active p.L := by omega
        have HT := qtake_more q0 hI.reach hr hpos
        rw [e1, e2] at HT
        refine (qput_full h id addr port hf ht' p.a (addB p.a) HT).mono ?_
        rintro e w' ⟨rfl, v', h1, h2⟩
        exact ⟨rfl, v', h1, h2⟩
      · have hE : Po.putE room p id port = 0 := by unfold Po.putE; rw [if_neg (fun h => h hf), if_neg ht, if_neg hfull]
        rw [hE, if_pos rfl]
        have hcnt : Po.active (p.L.take (Po.place p.L id) ++ Mem.mk id.toNat addr.toNat port.toNat 1 (Po.putK p) :: p.L.drop (Po.place p.L id)) = Po.active p.L + 1 := Po.active_put _ _ _ rfl
        have hlen := Po.active_le p.L
        have hL := hI.len
        unfold QPl
        rw [hcnt]
        unfold Po.putK
        by_cases h0 : Po.active p.L = 0
        · rw [if_pos h0, if_pos h0]
          obtain ⟨k1, k2, k3⟩ := hI.only h0
          have hown : p.own (p.a.W 0) = 0 := by
            refine Classical.byContradiction fun hne => ?_
            obtain ⟨m, hm, hs, _⟩ := hI.owns _ k1 hne
            have := Po.active_pos p.L m hm hs
            omega
          have hroom := hI.reach.room
          have hn : p.a.n = 1 := by rw [hI.cnt, h0]; rfl
          have HT : Calls Try.prog 33 #[.pointer (some ⟨b.p, 0, none⟩)] (addW w id addr port) fun e w' => e = .returned (.tuple #[.int .i64 (p.a.W 0 : Int), .int .i64 0]) ∧ ∃ v', QAt base w' key room b v' p.a p.L p.own (Po.active p.L) ∧ QWent (addW w id addr port) w' b v v' := by
            have q1 := q0
            unfold QPl at q1
            rw [h0] at q1
            refine (qtake_first q1 (by omega) (p.a.W 0) (by omega) k2 fun j hj hA => alone hI.reach.wf hn ⟨hj, hA⟩ ⟨by omega, k2⟩).mono ?_
            rintro e w' ⟨rfl, hb⟩
            exact ⟨rfl, v, q0.on hb, QWent.of hb b v⟩
          refine (qput_go h hI.ids hI.len hr (by omega) id addr port hf ha ht' (p.a.W 0) k1 hown p.a HT).mono ?_
          rintro e w' ⟨rfl, v', h1, h2⟩
          exact ⟨rfl, v', h1, h2⟩
        · rw [if_neg h0, if_neg h0]
          obtain ⟨k, k1, k2, _⟩ := hI.more (by omega) hfull
          have HT := qtake_more q0 hI.reach hr (by omega)
          have hlast := An.add_last hI.reach
          have hx : addE p.a = 0 ∧ p.own k = 0 := by
            rcases hlast with ⟨h1, _⟩ | ⟨t, c, h1, h2, h3, h4, h5, h6, h7, h8, h9⟩
            · have hst := hI.reach.stack
              have hc := hI.cnt
              have hlim := hI.lim
              rw [h1] at hst
              simp at hst
              omega
            · refine ⟨h7, Classical.byContradiction fun hne => ?_⟩
              obtain ⟨m, hm, hs, hbk, _⟩ := hI.owns k k2 hne
              have hA := (hI.act m hm hs).2.1
              have hkc : k = c := by have := k1.symm.trans h6; omega
              rw [hbk, hkc, h2] at hA
              have : t.n - 1 = 0 := by simpa [An.remove, upd_same] using hA
              omega
          rw [hx.1, k1] at HT
          rw [k1, Int.toNat_natCast]
          refine (qput_go h hI.ids hI.len hr (by omega) id addr port hf ha ht' k k2 hx.2 (addS p.a) HT).mono ?_
          rintro e w' ⟨rfl, v', h1, h2⟩
          exact ⟨rfl, v', h1, h2⟩
  · have hE : Po.putE room p id port = 1 := by unfold Po.putE; rw [if_pos hf]
    rw [hE, if_neg (by decide)]
    refine (qput_arg b.p id addr port hf).mono ?_
    rintro e w' ⟨rfl, hb⟩
    exact ⟨rfl, v, h.on hb, QWent.of hb b v⟩
end
end Go.Proofs.Ytckkdgifjgkoaaa

/- What a deed does to the states of those who are there, as a function of the ID. Nothing of the program is in here. -/
namespace Go.Proofs.Ytckkdgifjgkoaaa
open An
namespace Po
/-- The state of an ID; 0: it is not there. -/
def stOf (p : Pl) (id : Int) : Nat := match p.L[place p.L id]? with | some m => if (m.id : Int) = id then m.st else 0 | none => 0
theorem stOf_no {p : Pl} {id : Int} (h : there p.L id = false) : stOf p id = 0 := by
  unfold stOf
  unfold there at h
  cases e : p.L[place p.L id]? with
  | none => rfl
  | some m =>
    rw [e] at h
    have h : ¬ (m.id : Int) = id := by simpa using h
    exact if_neg h
theorem stOf_mem {p : Pl} (hs : Rises p.L) {m : Mem} (hm : m ∈ p.L) : stOf p m.id = m.st := by
  unfold stOf
  rw [place_of p.L hs m hm]
  exact if_pos rfl
section
variable {room : Nat} {p : Pl}
theorem stOf_there (hI : PInv room p.a p.L p.own) (id : Int) : there p.L id = decide (stOf p id ≠ 0) := by
  by_cases h : there p.L id = true
  · obtain ⟨m, hm, rfl⟩ := (there_iff hI.ids id).1 h
    rw [h, stOf_mem hI.ids hm]
    rcases hI.st m hm with e | e <;> rw [e] <;> rfl
  · have h : there p.L id = false := by simpa using h
    rw [h, stOf_no h]; rfl
theorem stOf_le (hI : PInv room p.a p.L p.own) (id : Int) : stOf p id ≤ 2 := by
  by_cases h : there p.L id = true
  · obtain ⟨m, hm, rfl⟩ := (there_iff hI.ids id).1 h
    rw [stOf_mem hI.ids hm]
    rcases hI.st m hm with e | e <;> omega
  · rw [stOf_no (by simpa using h)]; omega
theorem stOf_fine (hI : PInv room p.a p.L p.own) {id : Int} (h : stOf p id ≠ 0) : 1 ≤ id ∧ id ≤ 65535 := by
  have ht := stOf_there hI id
  rw [decide_eq_true h] at ht
  obtain ⟨m, hm, rfl⟩ := (there_iff hI.ids id).1 ht
  have := hI.idr m hm
  omega
/-- Whoever is there, of a list that has been turned. -/
theorem stOf_eq {L : List Mem} (hs : Rises L) {a : An} {own : Nat → Nat} {id : Int} {s : Nat} (h : ∃ m ∈ L, (m.id : Int) = id ∧ m.st = s) : stOf ⟨a, L, own⟩ id = s := by
  obtain ⟨m, hm, rfl, rfl⟩ := h
  exact stOf_mem (p := ⟨a, L, own⟩) hs hm
theorem stOf_none {L : List Mem} (hs : Rises L) {a : An} {own : Nat → Nat} {id : Int} (h : ∀ m ∈ L, (m.id : Int) ≠ id) : stOf ⟨a, L, own⟩ id = 0 := by
  refine stOf_no (p := ⟨a, L, own⟩) (Bool.eq_false_iff.2 fun ht => ?_)
  obtain ⟨m, hm, e⟩ := (there_iff hs id).1 ht
  exact h m hm e
/-- Two lists have the same of one ID. -/
theorem stOf_same {p' : Pl} (hs : Rises p.L) (hs' : Rises p'.L) {id : Int} (h : ∀ m : Mem, (m.id : Int) = id → (m ∈ p.L ↔ m ∈ p'.L)) : stOf p' id = stOf p id := by
  by_cases ht : there p.L id = true
  · obtain ⟨m, hm, rfl⟩ := (there_iff hs id).1 ht
    rw [stOf_mem hs hm, stOf_mem hs' ((h m rfl).1 hm)]
  · have ht : there p.L id = false := by simpa using ht
    have ht' : there p'.L id = false := Bool.eq_false_iff.2 fun ht' => by
      obtain ⟨m, hm, e⟩ := (there_iff hs' id).1 ht'
      rw [(there_iff hs id).2 ⟨m, (h m e).2 hm, e⟩] at ht
      cases ht
    rw [stOf_no ht, stOf_no ht']
/-- Add. -/
theorem putE_eq (hI : PInv room p.a p.L p.own) (id port : Int) : putE room p id port = if ¬ Fine id port then 1 else if stOf p id ≠ 0 then 20 else if active p.L = room then 16 else 0 := by
  unfold putE
  rw [stOf_there hI id]
  by_cases h : stOf p id = 0
  · simp [h]
  · simp [h]
theorem put_st (hI : PInv room p.a p.L p.own) {id addr port : Int} (hE : putE room p id port = 0) (id' : Int) : stOf (putP room p id addr port) id' = if id' = id then 1 else stOf p id' := by
  have hI' := put_inv hI id addr port
  unfold putP at hI' ⊢
  rw [if_pos hE] at hI' ⊢
  have hf : Fine id port := Classical.byContradiction fun h => by unfold putE at hE; rw [if_pos h] at hE; cases hE
  have hid : ((id.toNat : Nat) : Int) = id := by have := hf.1; omega
  by_cases e : id' = id
  · subst e
    rw [if_pos rfl]
    exact stOf_eq hI'.ids ⟨_, (mem_put _ _ _ _).2 (.inl rfl), hid, rfl⟩
  · rw [if_neg e]
    refine stOf_same hI.ids hI'.ids fun m hm => ?_
    show _ ↔ m ∈ p.L.take _ ++ _ :: p.L.drop _
    rw [mem_put]
    exact ⟨.inr, fun h => h.resolve_left fun h => e (by rw [← hm, h]; exact hid)⟩
theorem put_active {id addr port : Int} (hE : putE room p id port = 0) : active (putP room p id addr port).L = active p.L + 1 := by
  unfold putP
  rw [if_pos hE]
  exact active_put _ _ _ rfl
theorem put_length {id addr port : Int} (hE : putE room p id port = 0) : (putP room p id addr port).L.length = p.L.length + 1 := by
  unfold putP
  rw [if_pos hE]
  show (p.L.take _ ++ _ :: p.L.drop _).length = _
  rw [List.length_append, List.length_cons]
  have : (p.L.take (place p.L id)).length + (p.L.drop (place p.L id)).length = p.L.length := by rw [← List.length_append, List.take_append_drop]
  omega
theorem put_no {id addr port : Int} (hE : putE room p id port ≠ 0) : putP room p id addr port = p := by
  unfold putP
  rw [if_neg hE]
/-- Drain. -/
theorem drainE_eq (hI : PInv room p.a p.L p.own) (id : Int) : drainE p id = if stOf p id = 1 then 0 else if stOf p id = 0 then 19 else 15 := by
  unfold drainE stOf
  cases e : p.L[place p.L id]? with
  | none => rfl
  | some m =>
    have hst := hI.st m (List.mem_of_getElem? e)
    by_cases h : (m.id : Int) = id
    · simp only [h, if_true]
      rcases hst with e | e <;> rw [e] <;> rfl
    · simp only [h, if_false]; rfl
/-- Who stands at an ID. -/
theorem at_of (hI : PInv room p.a p.L p.own) {id : Int} {s : Nat} (h : stOf p id = s) (hs : s ≠ 0) : ∃ m, p.L[place p.L id]? = some m ∧ (m.id : Int) = id ∧ m.st = s ∧ m ∈ p.L := by
  have ht := stOf_there hI id
  rw [h, decide_eq_true hs] at ht
  obtain ⟨m, hm, rfl⟩ := (there_iff hI.ids id).1 ht
  exact ⟨m, place_of p.L hI.ids m hm, rfl, by rw [← h, stOf_mem hI.ids hm], hm⟩
theorem drainP_yes (hI : PInv room p.a p.L p.own) {id : Int} (h : stOf p id = 1) : ∃ m, p.L[place p.L id]? = some m ∧ (m.id : Int) = id ∧ m.st = 1 ∧ m ∈ p.L ∧ drainP p id = ⟨leaveS p.a p.L m.bk, p.L.set (place p.L id) (off m), upd p.own m.bk 0⟩ := by
  obtain ⟨m, h1, h2, h3, h4⟩ := at_of hI h (by decide)
  refine ⟨m, h1, h2, h3, h4, ?_⟩
  unfold drainP
  rw [h1]
  exact if_pos ⟨h2, h3⟩
theorem drainP_no {id : Int} (h : stOf p id ≠ 1) : drainP p id = p := by
  unfold drainP
  unfold stOf at h
  cases e : p.L[place p.L id]? with
  | none => rfl
  | some m =>
    rw [e] at h
    refine if_neg fun hc => h ?_
    show (if (m.id : Int) = id then m.st else 0) = 1
    rw [if_pos hc.1, hc.2]
theorem drain_st (hI : PInv room p.a p.L p.own) {id : Int} (h : stOf p id = 1) (id' : Int) : stOf (drainP p id) id' = if id' = id then 2 else stOf p id' := by
  obtain ⟨m, h1, h2, h3, h4, h5⟩ := drainP_yes hI h
  have hI' := drain_inv hI id
  rw [h5] at hI' ⊢
  have hi : place p.L id < p.L.length := (List.getElem?_eq_some_iff.1 h1).1
  by_cases e : id' = id
  · subst e
    rw [if_pos rfl]
    exact stOf_eq hI'.ids ⟨off m, List.mem_iff_getElem?.2 ⟨_, List.getElem?_set_self hi⟩, h2, rfl⟩
  · rw [if_neg e]
    refine stOf_same hI.ids hI'.ids fun x hx => ?_
    show _ ↔ x ∈ p.L.set _ _
    refine ⟨fun hm => mem_set_ne p.L _ m (off m) x h1 hm fun h => e (by rw [← hx, h]; exact h2), fun hm => ?_⟩
    rcases List.mem_or_eq_of_mem_set hm with h | h
    · exact h
    · exact absurd (by rw [← hx, h]; exact h2) e
theorem drain_active (hI : PInv room p.a p.L p.own) {id : Int} (h : stOf p id = 1) : active (drainP p id).L + 1 = active p.L := by
  obtain ⟨m, h1, h2, h3, h4, h5⟩ := drainP_yes hI h
  rw [h5]
  exact active_off p.L _ m (off m) h1 h3 (by show (2 : Nat) ≠ 1; decide)
theorem drain_length (id : Int) : (drainP p id).L.length = p.L.length := by
  unfold drainP
  cases e : p.L[place p.L id]? with
  | none => rfl
  | some m =>
    show (if _ then _ else _ : Pl).L.length = _
    split
    · exact List.length_set
    · rfl
/-- Remove. -/
theorem goneE_eq (hI : PInv room p.a p.L p.own) (id : Int) : goneE p id = if stOf p id = 0 then 19 else 0 := by
  unfold goneE
  rw [stOf_there hI id]
  by_cases h : stOf p id = 0
  · simp [h]
  · simp [h]
theorem goneP_no (hI : PInv room p.a p.L p.own) {id : Int} (h : stOf p id = 0) : goneP p id = p := by
  unfold goneP
  unfold stOf at h
  cases e : p.L[place p.L id]? with
  | none => rfl
  | some m =>
    rw [e] at h
    refine if_neg fun hc => ?_
    have h : (if (m.id : Int) = id then m.st else 0) = 0 := h
    rw [if_pos hc] at h
    rcases hI.st m (List.mem_of_getElem? e) with e | e <;> omega
theorem goneP_yes (hI : PInv room p.a p.L p.own) {id : Int} (h : stOf p id ≠ 0) : ∃ m, p.L[place p.L id]? = some m ∧ (m.id : Int) = id ∧ m.st = stOf p id ∧ m ∈ p.L ∧ (goneP p id).L = p.L.eraseIdx (place p.L id) := by
  obtain ⟨m, h1, h2, h3, h4⟩ := at_of hI rfl h
  refine ⟨m, h1, h2, h3, h4, ?_⟩
  unfold goneP
  rw [h1]
  show (if (m.id : Int) = id then (if m.st = 1 then _ else _) else p : Pl).L = _
  rw [if_pos h2]
  split <;> rfl
theorem gone_st (hI : PInv room p.a p.L p.own) (id id' : Int) : stOf (goneP p id) id' = if id' = id then 0 else stOf p id' := by
  by_cases h : stOf p id = 0
  · rw [goneP_no hI h]
    by_cases e : id' = id
    · rw [if_pos e, e, h]
    · rw [if_neg e]
  · obtain ⟨m, h1, h2, h3, h4, h5⟩ := goneP_yes hI h
    have hI' := gone_inv hI id
    have hu : ∀ x ∈ (goneP p id).L, (x.id : Int) ≠ id := fun x hx e => by
      rw [h5] at hx
      have hxL := List.mem_of_mem_eraseIdx hx
      have ex : x = m := uniq p.L hI.ids x m hxL h4 (by omega)
      subst ex
      obtain ⟨j, hj⟩ := List.mem_iff_getElem?.1 hx
      rw [List.getElem?_eraseIdx] at hj
      have lt : ∀ {a b : Nat} {x y : Mem}, p.L[a]? = some x → p.L[b]? = some y → a < b → x.id < y.id := fun {a b x y} ha hb hab => by
        obtain ⟨ha1, ha2⟩ := List.getElem?_eq_some_iff.1 ha
        obtain ⟨hb1, hb2⟩ := List.getElem?_eq_some_iff.1 hb
        have := List.pairwise_iff_getElem.1 hI.ids a b ha1 hb1 hab
        rw [ha2, hb2] at this
        exact this
      split at hj
      · rename_i hlt
        have := lt hj h1 hlt
        omega
      · rename_i hlt
        have := lt h1 hj (by omega)
        omega
    by_cases e : id' = id
    · subst e
      rw [if_pos rfl]
      exact stOf_no (Bool.eq_false_iff.2 fun ht => by
        obtain ⟨x, hx, e⟩ := (there_iff hI'.ids _).1 ht
        exact hu x hx e)
    · rw [if_neg e]
      refine stOf_same hI.ids hI'.ids fun x hx => ?_
      rw [h5]
      exact ⟨fun hm => mem_erase_ne p.L _ m x h1 hm fun h => e (by rw [← hx, h]; exact h2), List.mem_of_mem_eraseIdx⟩
theorem gone_active (hI : PInv room p.a p.L p.own) {id : Int} (h : stOf p id ≠ 0) : active (goneP p id).L + (if stOf p id = 1 then 1 else 0) = active p.L := by
  obtain ⟨m, h1, h2, h3, h4, h5⟩ := goneP_yes hI h
  rw [h5, ← h3]
  exact active_erase p.L _ m h1
theorem gone_length (hI : PInv room p.a p.L p.own) {id : Int} (h : stOf p id ≠ 0) : (goneP p id).L.length + 1 = p.L.length := by
  obtain ⟨m, h1, h2, h3, h4, h5⟩ := goneP_yes hI h
  have hi : place p.L id < p.L.length := (List.getElem?_eq_some_iff.1 h1).1
  rw [h5, List.length_eraseIdx, if_pos hi]
  omega
/-- Get. -/
theorem getV_eq (p : Pl) (id : Int) : ∃ x y z : Nat, getV p id = .tuple #[.agg #[.int .i64 (x : Int), .int .u32 (y : Int), .int .i64 (z : Int)], .int .i64 (stOf p id : Int), .int .i64 (if there p.L id = true then 0 else 19)] := by
  unfold getV stOf there
  cases e : p.L[place p.L id]? with
  | none => exact ⟨0, 0, 0, rfl⟩
  | some m =>
    by_cases h : (m.id : Int) = id
    · refine ⟨m.id, m.addr, m.port, ?_⟩
      show (if (m.id : Int) = id then _ else _ : Value) = _
      rw [if_pos h]
      show _ = Value.tuple #[_, .int .i64 ((if (m.id : Int) = id then m.st else 0 : Nat) : Int), .int .i64 (if ((m.id : Int) == id) = true then 0 else 19)]
      rw [if_pos h, if_pos (by simpa using h)]
      rfl
    · refine ⟨0, 0, 0, ?_⟩
      show (if (m.id : Int) = id then _ else _ : Value) = _
      rw [if_neg h]
      show _ = Value.tuple #[_, .int .i64 ((if (m.id : Int) = id then m.st else 0 : Nat) : Int), .int .i64 (if ((m.id : Int) == id) = true then 0 else 19)]
      rw [if_neg h, if_neg (by simpa using h)]
      rfl
end
end Po
end Go.Proofs.Ytckkdgifjgkoaaa

/- A pool as a law holds it: in memory, reached, and what lay before is as it was. -/
namespace Go.Proofs.Ytckkdgifjgkoaaa
open Go.ChangeShapes Go.WideShapes Go.ChangeAt Go.RowKit Go.Maps An Sp
structure Run (w : World) (base : Nat) (key : ByteArray) (room : Nat) (W : World) (b : QBk) (v : Value) (p : Pl) : Prop where
  at_ : QPl base W key room b v p
  inv : PInv room p.a p.L p.own
  below : Below w.heap.size w W
  wb : w.heap.size ≤ base
  hr : room ≤ 65536
  hk : key.size = 16
def pl0 (room : Nat) : Pl := ⟨An.start room 1, [], fun _ => 0⟩
section
variable {w W W' : World} {base room : Nat} {key : ByteArray} {b : QBk} {v v' : Value} {p p' : Pl}
theorem Run.on (h : Run w base key room W b v p) (hb : Below W.heap.size W W') : Run w base key room W' b v p := ⟨h.at_.on hb, h.inv, Below.trans h.below (hb.mono h.below.size), h.wb, h.hr, h.hk⟩
theorem Run.drewN (h : Run w base key room W b v p) (j : Nat) : Run w base key room (W.drewN j) b v p := ⟨h.at_.drewN j, h.inv, below_drewN h.below j, h.wb, h.hr, h.hk⟩
theorem Run.aside (h : Run w base key room W b v p) {x : Nat} (hx : x ∉ qfeet b v) (hw : w.heap.size ≤ x) (i : Nat) (u : Value) : Run w base key room (W.setCell ⟨x, i, none⟩ u) b v p := ⟨h.at_.aside hx i u, h.inv, h.below.setCell (p := ⟨x, i, none⟩) hw u, h.wb, h.hr, h.hk⟩
theorem Run.lt (h : Run w base key room W b v p) : ∀ x ∈ qfeet b v, base ≤ x ∧ x < W.heap.size := h.at_.lt
theorem Run.fresh (h : Run w base key room W b v p) {x : Nat} (hx : W.heap.size ≤ x) : x ∉ qfeet b v := fun hf => by have := (h.lt x hf).2; omega
theorem Run.old (h : Run w base key room W b v p) {x : Nat} (hx : x < base) : x ∉ qfeet b v := fun hf => by have := (h.lt x hf).1; omega
theorem Run.went (h : Run w base key room W b v p) (hq : QPl base W' key room b v' p') (hI : PInv room p'.a p'.L p'.own) (hg : QWent W W' b v v') : Run w base key room W' b v' p' :=
  ⟨hq, hI, QWent.below h.below hg h.at_ h.wb, h.wb, h.hr, h.hk⟩
/-- What is no block of the pool's stays. -/
theorem QWent.row (h : QWent W W' b v v') {x : Nat} {l : List Value} (hr : Row W x l) (hx : x ∉ qfeet b v) : Row W' x l := hr.but h.but hx
theorem Run.put (h : Run w base key room W b v p) (id addr port : Int) (ha : 0 ≤ addr) :
    Calls Try.prog 15 #[.pointer (some ⟨b.p, 0, none⟩), .agg #[.int .i64 id, .int .u32 addr, .int .i64 port]] W fun e w' => e = .returned (.int .i64 (Po.putE room p id port)) ∧
      ∃ v', Run w base key room w' b v' (Po.putP room p id addr port) ∧ QWent W w' b v v' := by
  refine (qput_any h.at_ h.inv h.hr id addr port ha).mono ?_
  rintro e w' ⟨rfl, v', h1, h2⟩
  exact ⟨rfl, v', h.went h1 (put_inv h.inv id addr port) h2, h2⟩
theorem Run.drain (h : Run w base key room W b v p) (id : Int) (hi : -9223372036854775808 ≤ id ∧ id ≤ 9223372036854775807) :
    Calls Try.prog 18 #[.pointer (some ⟨b.p, 0, none⟩), .int .i64 id] W fun e w' => e = .returned (.int .i64 (Po.drainE p id)) ∧
      ∃ v', Run w base key room w' b v' (Po.drainP p id) ∧ QWent W w' b v v' := by
  refine (qdrain_any h.at_ h.inv h.hr id hi).mono ?_
  rintro e w' ⟨rfl, v', h1, h2⟩
  exact ⟨rfl, v', h.went h1 (drain_inv h.inv id) h2, h2⟩
theorem Run.gone (h : Run w base key room W b v p) (id : Int) (hi : -9223372036854775808 ≤ id ∧ id ≤ 9223372036854775807) :
    Calls Try.prog 19 #[.pointer (some ⟨b.p, 0, none⟩), .int .i64 id] W fun e w' => e = .returned (.int .i64 (Po.goneE p id)) ∧
      ∃ v', Run w base key room w' b v' (Po.goneP p id) ∧ QWent W w' b v v' := by
  refine (qgone_any h.at_ h.inv h.hr id hi).mono ?_
  rintro e w' ⟨rfl, v', h1, h2⟩
  exact ⟨rfl, v', h.went h1 (gone_inv h.inv id) h2, h2⟩
theorem Run.get (h : Run w base key room W b v p) (id : Int) (hi : -9223372036854775808 ≤ id ∧ id ≤ 9223372036854775807) :
    Calls Try.prog 20 #[.pointer (some ⟨b.p, 0, none⟩), .int .i64 id] W fun e w' => e = .returned (Po.getV p id) ∧ Below W.heap.size W w' := qget_any h.at_ h.inv id hi
theorem Run.pick (h : Run w base key room W b v p) (t : Tp) (ht : t.Wf) :
    Calls Try.prog 16 #[.pointer (some ⟨b.p, 0, none⟩), t.val] W fun e w' => e = .returned (Po.pickV p key t) ∧ Below W.heap.size W w' := qpick_any h.at_ h.inv h.hr h.hk t ht
theorem Run.act (h : Run w base key room W b v p) :
    Calls Try.prog 12 #[.pointer (some ⟨b.p, 0, none⟩)] W fun e w' => e = .returned (.int .i64 (Po.active p.L : Int)) ∧ w' = W := qactive_any h.at_
theorem run_new (w W : World) (hb : Below w.heap.size w W) (room : Nat) (h1 : 1 ≤ room) (hr : room ≤ 65536) (key : ByteArray) (hk : key.size = 16) :
    Calls Try.prog 9 #[.int .i64 (room : Int), .string key] W fun e w' => ∃ (b : QBk) (v : Value), e = .returned (.tuple #[.pointer (some ⟨b.p, 0, none⟩), .int .i64 0]) ∧ Run w W.heap.size key room w' b v (pl0 room) ∧ Below W.heap.size W w' := by
  refine (qmake_ok room h1 hr key hk W).mono ?_
  rintro e w' ⟨b, v, rfl, h2, h3⟩
  exact ⟨b, v, rfl, ⟨h2, pinv_start room h1, Below.then hb h3, hb.size, hr, hk⟩, h3⟩
end
namespace Po
section
variable {room : Nat} {p : Pl} {key : ByteArray} {t : Tp}
theorem pick_no (h : active p.L = 0) : pickV p key t = .tuple #[.agg #[.int .i64 0, .int .u32 0, .int .i64 0], .bool false] := by
  unfold pickV pickOk
  rw [h, if_neg (by simp)]
  rfl
theorem pick_nokey (h : keyB t = false) : pickV p key t = .tuple #[.agg #[.int .i64 0, .int .u32 0, .int .i64 0], .bool false] := by
  unfold pickV pickOk
  rw [h, if_neg (by simp)]
  rfl
theorem pick_yes (h : 0 < active p.L) (hk : keyB t = true) : pickV p key t = .tuple #[.agg #[.int .i64 ((pickM p key t).id : Int), .int .u32 ((pickM p key t).addr : Int), .int .i64 ((pickM p key t).port : Int)], .bool true] := by
  unfold pickV pickOk
  rw [hk, decide_eq_true h]
  rfl
theorem pick_st (hI : PInv room p.a p.L p.own) (h : 0 < active p.L) : stOf p ((pickM p key t).id : Int) = 1 := by
  obtain ⟨_, _, _, h4, h5, _⟩ := hI.pick (key := key) h t
  rw [stOf_mem hI.ids h4, h5]
theorem st_pl0 (room : Nat) (id : Int) : stOf (pl0 room) id = 0 := stOf_no (p := pl0 room) rfl
theorem act_pl0 (room : Nat) : active (pl0 room).L = 0 := rfl
end
end Po
/-- The law's key. -/
def key0 : ByteArray := ⟨#[48, 49, 50, 51, 52, 53, 54, 55, 56, 57, 97, 98, 99, 100, 101, 102]⟩
theorem key0_size : key0.size = 16 := rfl
def tp6 : Tp := ⟨6, 0, 0, 0, 0⟩
theorem tp6_wf : tp6.Wf := ⟨by decide, by decide⟩
theorem tp6_key : keyB tp6 = true := by decide +kernel
end Go.Proofs.Ytckkdgifjgkoaaa

/- examples of the law's package. -/
namespace Go.Proofs.Ytckkdgifjgkoaaa
open Go.ChangeShapes Go.WideShapes Go.ChangeAt Go.RowKit Go.Maps An Sp
namespace Po
def ex1 : Pl := putP 2 (pl0 2) 5 7 9
def ex2 : Pl := drainP ex1 5
theorem ex_inv0 : PInv 2 (pl0 2).a (pl0 2).L (pl0 2).own := pinv_start 2 (by decide)
theorem ex_put : putE 2 (pl0 2) 5 9 = 0 := by
  rw [putE_eq ex_inv0, st_pl0, act_pl0]
  rfl
theorem ex_inv1 : PInv 2 ex1.a ex1.L ex1.own := put_inv ex_inv0 5 7 9
theorem ex_st1 (id : Int) : stOf ex1 id = if id = 5 then 1 else 0 := by
  show stOf (putP 2 (pl0 2) 5 7 9) id = _
  rw [put_st ex_inv0 ex_put, st_pl0]
theorem ex_act1 : active ex1.L = 1 := by
  show active (putP 2 (pl0 2) 5 7 9).L = 1
  rw [put_active ex_put, act_pl0]
theorem ex_pick1 : (pickM ex1 key0 tp6).id = 5 := by
  have h := pick_st (key := key0) (t := tp6) ex_inv1 (by rw [ex_act1]; decide)
  rw [ex_st1] at h
  split at h
  · omega
  · cases h
theorem ex_drain : drainE ex1 5 = 0 := by rw [drainE_eq ex_inv1, ex_st1]; rfl
theorem ex_act2 : active ex2.L = 0 := by
  have h := drain_active (p := ex1) (id := 5) ex_inv1 (by rw [ex_st1]; rfl)
  rw [ex_act1] at h
  show active (drainP ex1 5).L = 0
  omega
theorem ex_st2 : stOf ex2 5 = 2 := by
  show stOf (drainP ex1 5) 5 = 2
  rw [drain_st ex_inv1 (by rw [ex_st1]; rfl)]
  rfl
theorem ex_inv2 : PInv 2 ex2.a ex2.L ex2.own := drain_inv ex_inv1 5
end Po
section
set_option maxRecDepth 100000 in
set_option maxHeartbeats 8000000 in
theorem examples_any (w : World) :
    Calls Try.prog 8 #[] w fun e w' => e = .returned (.bool true) ∧ Below w.heap.size w w' := by
  have hN : Hid (Calls Try.prog 9 #[.int .i64 2, .string key0] w fun e w' => ∃ (b : QBk) (v : Value), e = .returned (.tuple #[.pointer (some ⟨b.p, 0, none⟩), .int .i64 0]) ∧ Run w w.heap.size key0 2 w' b v (pl0 2) ∧ Below w.heap.size w w') := run_new w w (Below.refl _ _) 2 (by decide) (by decide) key0 key0_size
  have hS := hide (fun u => qmake_key 2 ⟨#[115, 104, 111, 114, 116]⟩ (by decide) u)
  go_enter Try.func8, Try.ntmps8
  go_wp2_with fail
  refine (unhide hN).mono ?_
  rintro e w1 ⟨b, v, rfl, R1, _⟩
  have HR1 := hide R1
  clear R1 hN
  go_wp2_with fail
  refine (unhide hS _).mono ?_
  rintro e w2 ⟨rfl, hb⟩
  have HR2 := hide ((unhide HR1).on hb)
  clear hb HR1 hS
  have hC := hide ((unhide HR2).pick tp6 tp6_wf)
  rw [Po.pick_no (Po.act_pl0 2)] at hC
  go_wp2_with fail
  refine (unhide hC).mono ?_
  rintro e w3 ⟨rfl, hb⟩
  have HR3 := hide (((unhide HR2).on hb).on (alloc_on _ (.cells #[.int .i64 0, .int .u32 0, .int .i64 0] 33)))
  clear hb HR2 hC
  have hC := hide ((unhide HR3).put 5 7 9 (by decide))
  rw [Po.ex_put] at hC
  go_wp2_with fail
  refine (unhide hC).mono ?_
  rintro e w4 ⟨rfl, v4, R4, _⟩
  have HR4 : Hid (Run w w.heap.size key0 2 w4 b v4 Po.ex1) := R4
  clear R4 HR3 hC
  have hC := hide ((unhide HR4).pick tp6 tp6_wf)
  rw [Po.pick_yes (by rw [Po.ex_act1]; decide) tp6_key, Po.ex_pick1] at hC
  generalize (Po.pickM Po.ex1 key0 tp6).addr = x1 at hC
  generalize (Po.pickM Po.ex1 key0 tp6).port = x2 at hC
  go_wp2_with fail
  refine (unhide hC).mono ?_
  rintro e w5 ⟨rfl, hb⟩
  have R5 := (unhide HR4).on hb
  have HX5 := hide (And.intro (row_new w5 [.int .i64 5, .int .u32 (x1 : Int), .int .i64 (x2 : Int)] 33) (R5.fresh (Nat.le_refl _)))
  have HR5 := hide (R5.on (alloc_on _ (.cells #[.int .i64 5, .int .u32 (x1 : Int), .int .i64 (x2 : Int)] 33)))
  clear hb HR4 hC R5
  have hC := hide ((unhide HR5).drain 5 (by decide))
  rw [Po.ex_drain] at hC
  go_wp2_with fail
  refine (unhide hC).mono ?_
  rintro e w6 ⟨rfl, v6, R6, g6⟩
  have HX6 := hide (And.intro (g6.row (unhide HX5).1 (unhide HX5).2) trivial)
  have HR6 : Hid (Run w w.heap.size key0 2 w6 b v6 Po.ex2) := R6
  clear R6 HR5 hC HX5 g6
  have hC := hide ((unhide HR6).pick tp6 tp6_wf)
  rw [Po.pick_no Po.ex_act2] at hC
  go_wp2_with fail
  refine (unhide hC).mono ?_
  rintro e w7 ⟨rfl, hb⟩
  have HX7 := hide (((unhide HX6).1.on' hb).on' (alloc_on _ (.cells #[.int .i64 0, .int .u32 0, .int .i64 0] 33)))
  have HR7 := hide (((unhide HR6).on hb).on (alloc_on _ (.cells #[.int .i64 0, .int .u32 0, .int .i64 0] 33)))
  clear hb HR6 hC HX6
  have hC := hide ((unhide HR7).get 5 (by decide))
  obtain ⟨y1, y2, y3, hG⟩ := Po.getV_eq Po.ex2 5
  rw [hG, Po.stOf_there Po.ex_inv2, Po.ex_st2] at hC
  have hC : Hid (Calls Try.prog 20 #[.pointer (some ⟨b.p, 0, none⟩), .int .i64 5] (w7.alloc (.cells #[.int .i64 0, .int .u32 0, .int .i64 0] 33)) fun e w' => e = .returned (.tuple #[.agg #[.int .i64 (y1 : Int), .int .u32 (y2 : Int), .int .i64 (y3 : Int)], .int .i64 2, .int .i64 0]) ∧ Below (w7.alloc (.cells #[.int .i64 0, .int .u32 0, .int .i64 0] 33)).heap.size (w7.alloc (.cells #[.int .i64 0, .int .u32 0, .int .i64 0] 33)) w') := hC
  clear hG
  go_wp2_with fail
  refine (unhide hC).mono ?_
  rintro e w8 ⟨rfl, hb⟩
  have hX8 := ((unhide HX7).on' hb).on' (alloc_on _ (.cells #[.int .i64 (y1 : Int), .int .u32 (y2 : Int), .int .i64 (y3 : Int)] 33))
  have HR8 := hide (((unhide HR7).on hb).on (alloc_on _ (.cells #[.int .i64 (y1 : Int), .int .u32 (y2 : Int), .int .i64 (y3 : Int)] 33)))
  have d0 := hX8.cell 0 _ rfl
  clear hb HR7 hC HX7 hX8
  go_wp2_with fail
  go_ret
  exact ⟨rfl, (unhide HR8).below⟩
end
theorem u32_rem (n : Int) (h0 : 0 ≤ n) : 0 ≤ n % 60000 ∧ n % 60000 < 60000 ∧ n.tmod 60000 = n % 60000 := ⟨Int.emod_nonneg _ (by decide), Int.emod_lt_of_pos _ (by decide), Int.tmod_eq_emod_of_nonneg h0⟩
/-- The tuple of a number. -/
def tpN (n : Int) : Tp := ⟨6, n, 9, n % 60000, 80⟩
theorem tpN_wf {n : Int} (h0 : 0 ≤ n) (h1 : n < 4294967296) : (tpN n).Wf := ⟨⟨h0, by show n ≤ _; omega⟩, by show (0 : Int) ≤ 9 ∧ (9 : Int) ≤ 4294967295; decide⟩
theorem tpN_key (n : Int) : keyB (tpN n) = true := by
  have h2 : laidB 2 (n % 60000) = true := (laidB_iff 2 _).2 ⟨⟨by decide, by decide⟩, Int.emod_nonneg _ (by decide), by
    have := Int.emod_lt_of_pos n (show (0 : Int) < 60000 by decide)
    have := Int.emod_nonneg n (show (60000 : Int) ≠ 0 by decide)
    show (n % 60000).toNat < 256 ^ 2
    omega⟩
  show (laidB 1 6 && laidB 2 (n % 60000) && laidB 2 80) = true
  rw [h2]
  decide +kernel
set_option maxRecDepth 100000 in
set_option maxHeartbeats 1000000 in
theorem tuple_any (n : Int) (h0 : 0 ≤ n) (w : World) :
    Calls Try.prog 17 #[.int .u32 n] w fun e w' => e = .returned (tpN n).val ∧ Below w.heap.size w w' := by
  obtain ⟨q0, q1, q2⟩ := u32_rem n h0
  have hw : IntKind.i64.wrap (n % 60000) = n % 60000 := Oct.wraps_i64 _ q0 (by omega)
  have hV : (tpN n).val = .agg #[.int .i64 6, .int .u32 n, .int .u32 9, .int .i64 (n % 60000), .int .i64 80] := rfl
  rw [hV]
  clear hV
  generalize n % 60000 = m at *
  go_enter Try.func17, Try.ntmps17
  go_wp2_with fail
  refine bodyPost_ret (v := .agg #[.int .i64 6, .int .u32 n, .int .u32 9, .int .i64 m, .int .i64 80]) (by simp [results, Try.results17, go_sem]) rfl ⟨rfl, ?_⟩
  (repeat first | exact Below.refl _ _ | refine Below.drew ?_ | refine Below.alloc ?_ (by simp <;> omega) _ | refine Below.setCell ?_ (by simp <;> omega) _)
end Go.Proofs.Ytckkdgifjgkoaaa

/- What the laws' walks share. -/
namespace Go.Proofs.Ytckkdgifjgkoaaa
open Go.ChangeShapes Go.WideShapes Go.ChangeAt Go.RowKit Go.Maps An Sp

theorem u32_bounds {n : Int} (h : (Lit.int .u32 n).wf = true) : 0 ≤ n ∧ n ≤ 4294967295 := by simpa [Lit.wf, IntKind.min, IntKind.max, IntKind.signed, IntKind.bits] using h
theorem u8_bounds {n : Int} (h : (Lit.int .u8 n).wf = true) : 0 ≤ n ∧ n ≤ 255 := by simpa [Lit.wf, IntKind.min, IntKind.max, IntKind.signed, IntKind.bits] using h
theorem i64_bounds {n : Int} (h : (Lit.int .i64 n).wf = true) : -9223372036854775808 ≤ n ∧ n ≤ 9223372036854775807 := by simpa [Lit.wf, IntKind.min, IntKind.max, IntKind.signed, IntKind.bits] using h
/-- A slice of integers from 0 to below hi: its cells. -/
def Sl (k : IntKind) (W : World) (a : Option Addr) (len : Nat) (zs : List Int) (hi : Int) : Prop :=
  ∀ i, i < len → ∃ x, a = some x ∧ W.cell? (x.add i) = some (.int k (zs.getD i 0)) ∧ 0 ≤ zs.getD i 0 ∧ zs.getD i 0 < hi
theorem Sl.on {k : IntKind} {W W' : World} {a : Option Addr} {len : Nat} {zs : List Int} {hi : Int} (h : Sl k W a len zs hi) (hb : Below W.heap.size W W') : Sl k W' a len zs hi := fun i hi => by
  obtain ⟨x, h1, h2, h3, h4⟩ := h i hi
  exact ⟨x, h1, (hb.cell (block_lt_of_cell h2)).trans h2, h3, h4⟩
/-- Two pools that hold the same, apart from each other. -/
structure Duo (w : World) (base base' : Nat) (room : Nat) (W : World) (b : QBk) (v : Value) (b' : QBk) (v' : Value) (p p' : Pl) : Prop where
  one : Run w base key0 room W b v p
  two : Run w base' key0 room W b' v' p'
  off : ∀ x ∈ qfeet b v, x ∉ qfeet b' v'
section
variable {w W W' : World} {base base' room : Nat} {b b' : QBk} {v v' u u' : Value} {p p' q q' : Pl}
theorem Duo.on (h : Duo w base base' room W b v b' v' p p') (hb : Below W.heap.size W W') : Duo w base base' room W' b v b' v' p p' := ⟨h.one.on hb, h.two.on hb, h.off⟩
theorem Duo.left (h : Duo w base base' room W b v b' v' p p') (hr : Run w base key0 room W' b u q) (hg : QWent W W' b v u) : Duo w base base' room W' b u b' v' q p' :=
  ⟨hr, ⟨h.two.at_.of_blocks fun x hx => hg.but.block x (h.two.lt x hx).2 fun hx' => h.off x hx' hx, h.two.inv, hr.below, h.two.wb, h.two.hr, h.two.hk⟩, fun x hx hx' => by
    rcases hg.new x hx with h1 | h1
    · exact h.off x h1 hx'
    · have := (h.two.lt x hx').2
      omega⟩
theorem Duo.right (h : Duo w base base' room W b v b' v' p p') (hr : Run w base' key0 room W' b' u q) (hg : QWent W W' b' v' u) : Duo w base base' room W' b v b' u p q :=
  ⟨⟨h.one.at_.of_blocks fun x hx => hg.but.block x (h.one.lt x hx).2 fun hx' => h.off x hx hx', h.one.inv, hr.below, h.one.wb, h.one.hr, h.one.hk⟩, hr, fun x hx hx' => by
    rcases hg.new x hx' with h1 | h1
    · exact h.off x hx h1
    · have := (h.one.lt x hx).2
      omega⟩
/-- New, whatever the key. -/
theorem qmake_word (W : World) (key : ByteArray) : Calls Try.prog 9 #[.int .i64 12, .string key] W fun e w' => ∃ a, e = .returned (.tuple #[.pointer a, .int .i64 (if key.size = 16 then 0 else 1)]) ∧ Below W.heap.size W w' := by
  by_cases h : key.size = 16
  · rw [if_pos h]
    refine (qmake_ok 12 (by decide) (by decide) key h W).mono ?_
    rintro e w' ⟨b, v, rfl, _, h3⟩
    exact ⟨_, rfl, h3⟩
  · rw [if_neg h]
    refine (qmake_key 12 key h W).mono ?_
    rintro e w' ⟨rfl, h3⟩
    exact ⟨_, rfl, h3⟩
theorem Po.pick_cases (p : Pl) (key : ByteArray) (t : Tp) (hk : keyB t = true) : ∃ x y z : Nat, Po.pickV p key t = .tuple #[.agg #[.int .i64 (x : Int), .int .u32 (y : Int), .int .i64 (z : Int)], .bool (decide (0 < Po.active p.L))] := by
  by_cases h : 0 < Po.active p.L
  · rw [Po.pick_yes h hk, decide_eq_true h]
    exact ⟨_, _, _, rfl⟩
  · rw [Po.pick_no (by omega), decide_eq_false h]
    exact ⟨0, 0, 0, rfl⟩
end
end Go.Proofs.Ytckkdgifjgkoaaa
