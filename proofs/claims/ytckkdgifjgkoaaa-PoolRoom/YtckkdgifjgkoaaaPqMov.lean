/- A pool to which 1 to n came; one of them drains, goes, and comes back. Nothing of the program is in here. -/
import Derived.Test.YtckkdgifjgkoaaaGPr
namespace Go.Proofs.Ytckkdgifjgkoaaa
open An Sp
namespace Po
def ownN (i : Nat) : Nat → Nat := fun j => if j < i then j + 1 else 0
/-- 1 to i came, in their order. -/
structure Filled (r i : Nat) (p : Pl) : Prop where
  a : p.a = An.start r (max 1 i)
  own : p.own = ownN i
  st : ∀ id : Int, stOf p id = if 1 ≤ id ∧ id ≤ i then 1 else 0
  act : active p.L = i
  len : p.L.length = i
  inv : PInv r p.a p.L p.own
section
variable {r i n : Nat} {p : Pl} {key : ByteArray} {t : Tp}
theorem filled_start (h : 1 ≤ r) : Filled r 0 (pl0 r) :=
  ⟨rfl, by funext j; show 0 = if j < 0 then j + 1 else 0; rw [if_neg (by omega)], fun id => by rw [st_pl0, if_neg (by omega)], rfl, rfl, pinv_start r h⟩
theorem start_add (h1 : 1 ≤ i) (h2 : i < r) : addB (An.start r i) = (i : Int) ∧ addS (An.start r i) = An.start r (i + 1) := by
  have hS : (An.start r i).S = i :: ((List.range (r - i - 1)).map (fun j => j + 1)).map (i + ·) := by
    show (List.range (r - i)).map (i + ·) = _
    obtain ⟨d, hd⟩ : ∃ d, r - i = d + 1 := ⟨r - i - 1, by omega⟩
    rw [hd, List.range_succ_eq_map, List.map_cons, Nat.add_sub_cancel]
    rfl
  refine ⟨by unfold addB; rw [hS], ?_⟩
  unfold addS
  rw [hS]
  show back (An.start r i) i = _
  rw [start_remove r i h2]
  have hR := reach_start r (r - (i + 1)) (i + 1) rfl (by omega) (by omega)
  exact back_remove hR.wf ((start_works r (i + 1) i (by omega) (by omega)).2 (by omega)) (by show 2 ≤ i + 1; omega)
theorem Filled.fine (h : Filled r i p) (hi : i < r) (port : Int) (hp : 0 ≤ port ∧ port ≤ 65535) (hr : r ≤ 65535) : putE r p ((i : Int) + 1) port = 0 := by
  have e : ¬ (1 ≤ (i : Int) + 1 ∧ (i : Int) + 1 ≤ (i : Int)) := by omega
  rw [putE_eq h.inv, if_neg (fun hf => hf ⟨by omega, by omega, hp.1, hp.2⟩), h.st, if_neg e, h.act, if_neg (fun h => h rfl), if_neg (by omega)]
theorem Filled.put (h : Filled r i p) (hi : i < r) (addr port : Int) (hp : 0 ≤ port ∧ port ≤ 65535) (hr : r ≤ 65535) : Filled r (i + 1) (putP r p ((i : Int) + 1) addr port) := by
  have hE := h.fine hi port hp hr
  have hI := put_inv h.inv ((i : Int) + 1) addr port
  have hid : ((i : Int) + 1).toNat = i + 1 := by omega
  refine ⟨?_, ?_, fun id => ?_, ?_, ?_, hI⟩
  · unfold putP
    rw [if_pos hE]
    show (if active p.L = 0 then p.a else addS p.a) = _
    rw [h.act, h.a]
    by_cases h0 : i = 0
    · rw [if_pos h0, h0]; rfl
    · rw [if_neg h0, show max 1 i = i by omega, show max 1 (i + 1) = i + 1 by omega]
      exact (start_add (by omega) hi).2
  · unfold putP
    rw [if_pos hE]
    show upd p.own (putK p) ((i : Int) + 1).toNat = _
    have hK : putK p = i := by
      unfold putK
      rw [h.act, h.a]
      by_cases h0 : i = 0
      · rw [if_pos h0, h0]; rfl
      · rw [if_neg h0, show max 1 i = i by omega, (start_add (by omega) hi).1]; omega
    rw [hK, hid, h.own]
    funext j
    unfold upd ownN
    by_cases e : j = i
    · rw [if_pos e, if_pos (by omega), e]
    · rw [if_neg e]
      by_cases hlt : j < i
      · rw [if_pos hlt, if_pos (by omega)]
      · rw [if_neg hlt, if_neg (by omega)]
  · rw [put_st h.inv hE, h.st]
    by_cases e : id = (i : Int) + 1
    · rw [if_pos e, if_pos (by omega)]
    · rw [if_neg e]
      by_cases hlt : 1 ≤ id ∧ id ≤ (i : Int)
      · rw [if_pos hlt, if_pos (by omega)]
      · rw [if_neg hlt, if_neg (by omega)]
  · rw [put_active hE, h.act]
  · rw [put_length hE, h.len]
/-- Who is chosen, by the bucket. -/
theorem Filled.id (h : Filled r n p) (h1 : 1 ≤ n) (hn : n ≤ r) : (pickM p key t).id = bucket (An.start r n) (gmix (Sp.hash key (keyS t))) + 1 ∧ bucket (An.start r n) (gmix (Sp.hash key (keyS t))) < n := by
  obtain ⟨_, _, _, _, _, _, h7⟩ := h.inv.pick (key := key) (by rw [h.act]; omega) t
  have hw := bucket_works h.inv.reach.wf (gmix (Sp.hash key (keyS t)))
  rw [h.a, show max 1 n = n by omega] at hw
  have hlt := (start_works r n _ hn h1).1 hw
  rw [h7, h.own]
  unfold pickB ownN
  rw [h.a, show max 1 n = n by omega, if_pos hlt]
  exact ⟨rfl, hlt⟩
end
/-- One of n has drained. -/
structure Drained (r n k : Nat) (p : Pl) : Prop where
  a : p.a = if 1 < n then remove (An.start r n) (k - 1) else An.start r n
  own : p.own = upd (ownN n) (k - 1) 0
  st : ∀ id : Int, stOf p id = if id = k then 2 else if 1 ≤ id ∧ id ≤ n then 1 else 0
  act : active p.L = n - 1
  inv : PInv r p.a p.L p.own
section
variable {r n k : Nat} {p : Pl} {key : ByteArray} {t : Tp}
theorem Filled.drain (h : Filled r n p) (h1 : 1 ≤ k) (h2 : k ≤ n) : drainE p k = 0 ∧ Drained r n k (drainP p k) := by
  have hst : stOf p (k : Int) = 1 := by rw [h.st, if_pos (by omega)]
  obtain ⟨m, m1, m2, m3, m4, m5⟩ := drainP_yes h.inv hst
  have hI := drain_inv h.inv (k : Int)
  have hbk : m.bk = k - 1 := by
    have h3 := (h.inv.act m m4 m3).2.2
    rw [h.own] at h3
    unfold ownN at h3
    have h4 := h.inv.idr m m4
    split at h3 <;> omega
  have hact := drain_active h.inv hst
  have hw : Works (An.start r n) (k - 1) := (start_works r n (k - 1) (by have := h.inv.lim; rw [h.act] at this; exact this) (by omega)).2 (by omega)
  refine ⟨by rw [drainE_eq h.inv, if_pos hst], ?_, ?_, fun id => ?_, by have := h.act; omega, hI⟩
  · rw [m5]
    show leaveS p.a p.L m.bk = _
    unfold leaveS
    rw [h.act, hbk, h.a, show max 1 n = n by omega]
    by_cases hn : 1 < n
    · rw [if_pos hn, if_pos hn]
      unfold remS
      have hR := hw.1
      rw [if_pos ⟨⟨by omega, by omega, by rw [Int.toNat_natCast]; exact hw.2⟩, by show n ≠ 1; omega⟩, Int.toNat_natCast]
    · rw [if_neg hn, if_neg hn]
  · rw [m5]
    show upd p.own m.bk 0 = _
    rw [hbk, h.own]
  · rw [drain_st h.inv hst, h.st]
/-- Who was to go to another one goes there still; nobody goes to the one that drains. -/
theorem Drained.id (h : Drained r n k p) (h0 : 1 < n) (hn : n ≤ r) (h1 : 1 ≤ k) (h2 : k ≤ n) : (pickM p key t).id ≠ k ∧ (bucket (An.start r n) (gmix (Sp.hash key (keyS t))) + 1 ≠ k → (pickM p key t).id = bucket (An.start r n) (gmix (Sp.hash key (keyS t))) + 1) := by
  obtain ⟨_, _, _, h4, _, _, h7⟩ := h.inv.pick (key := key) (by rw [h.act]; omega) t
  have hid := h.inv.idr _ h4
  have hR := reach_start r (r - n) n rfl (by omega) hn
  have hw : Works (An.start r n) (k - 1) := (start_works r n (k - 1) hn (by omega)).2 (by omega)
  have hgone := bucket_gone hR.wf hw (by show 2 ≤ n; omega) (gmix (Sp.hash key (keyS t)))
  have hsame := bucket_remove hR.wf hw (by show 2 ≤ n; omega) (gmix (Sp.hash key (keyS t)))
  have hp : pickB p.a key t = bucket (remove (An.start r n) (k - 1)) (gmix (Sp.hash key (keyS t))) := by unfold pickB; rw [h.a, if_pos h0]
  rw [hp] at h7
  generalize bucket (remove (An.start r n) (k - 1)) (gmix (Sp.hash key (keyS t))) = z1 at *
  generalize bucket (An.start r n) (gmix (Sp.hash key (keyS t))) = z at *
  rw [h.own] at h7
  unfold upd ownN at h7
  rw [if_neg hgone] at h7
  split at h7
  · refine ⟨by omega, fun hz => ?_⟩
    have := hsame (by omega)
    omega
  · omega
/-- The one that drained goes, and comes again. -/
theorem Drained.back (h : Drained r n k p) (hn : n ≤ r) (hr : r ≤ 65535) (h1 : 1 ≤ k) (h2 : k ≤ n) (addr port : Int) (hp : 0 ≤ port ∧ port ≤ 65535) :
    goneE p k = 0 ∧ putE r (goneP p k) k port = 0 ∧ active (putP r (goneP p k) k addr port).L = n ∧ PInv r (putP r (goneP p k) k addr port).a (putP r (goneP p k) k addr port).L (putP r (goneP p k) k addr port).own ∧
      (putP r (goneP p k) k addr port).a = An.start r n ∧ (putP r (goneP p k) k addr port).own = ownN n := by
  have hst : stOf p (k : Int) = 2 := by rw [h.st, if_pos rfl]
  have hI1 := gone_inv h.inv (k : Int)
  obtain ⟨m, m1, m2, m3, m4⟩ := at_of h.inv hst (by decide)
  have hG : goneP p (k : Int) = ⟨p.a, p.L.eraseIdx (place p.L (k : Int)), p.own⟩ := by
    unfold goneP
    rw [m1]
    show (if (m.id : Int) = k then (if m.st = 1 then _ else _) else p : Pl) = _
    rw [if_pos m2, if_neg (by omega)]
  have hact1 := gone_active h.inv (id := (k : Int)) (by rw [hst]; decide)
  rw [hst, h.act] at hact1
  have hact2 : active (goneP p (k : Int)).L = n - 1 := by simpa using hact1
  have hst1 : stOf (goneP p (k : Int)) (k : Int) = 0 := by rw [gone_st h.inv, if_pos rfl]
  have hE : putE r (goneP p (k : Int)) (k : Int) port = 0 := by
    rw [putE_eq hI1, if_neg (fun hf => hf ⟨by omega, by omega, hp.1, hp.2⟩), hst1, hact2, if_neg (fun h => h rfl), if_neg (by omega)]
  have hI2 := put_inv hI1 (k : Int) addr port
  refine ⟨by rw [goneE_eq h.inv, hst]; rfl, hE, by rw [put_active hE, hact2]; omega, hI2, ?_, ?_⟩
  · unfold putP
    rw [if_pos hE]
    show (if active (goneP p (k : Int)).L = 0 then (goneP p (k : Int)).a else addS (goneP p (k : Int)).a) = _
    rw [hact2, hG]
    show (if n - 1 = 0 then p.a else addS p.a) = _
    rw [h.a]
    by_cases h0 : 1 < n
    · rw [if_neg (by omega), if_pos h0]
      show An.back (remove (An.start r n) (k - 1)) (k - 1) = _
      exact back_remove (reach_start r (r - n) n rfl (by omega) hn).wf ((start_works r n (k - 1) hn (by omega)).2 (by omega)) (by show 2 ≤ n; omega)
    · rw [if_pos (by omega), if_neg h0]
  · unfold putP
    rw [if_pos hE]
    show upd (goneP p (k : Int)).own (putK (goneP p (k : Int))) (k : Int).toNat = _
    have hK : putK (goneP p (k : Int)) = k - 1 := by
      unfold putK
      rw [hact2, hG]
      show (if n - 1 = 0 then p.a.W 0 else (addB p.a).toNat) = _
      rw [h.a]
      by_cases h0 : 1 < n
      · rw [if_neg (by omega), if_pos h0]
        show (((k - 1 : Nat) : Int)).toNat = _
        omega
      · rw [if_pos (by omega), if_neg h0]
        show 0 = k - 1
        omega
    rw [hK, hG]
    show upd p.own (k - 1) (k : Int).toNat = _
    rw [h.own, upd_twice, Int.toNat_natCast]
    refine upd_self _ _ _ ?_
    unfold ownN
    rw [if_pos (by omega)]
    omega
/-- Who is chosen then. -/
theorem again_id (hI : PInv r p.a p.L p.own) (ha : p.a = An.start r n) (ho : p.own = ownN n) (hact : active p.L = n) (h1 : 1 ≤ n) (hn : n ≤ r) : (pickM p key t).id = bucket (An.start r n) (gmix (Sp.hash key (keyS t))) + 1 := by
  obtain ⟨_, _, _, _, _, _, h7⟩ := hI.pick (key := key) (by rw [hact]; omega) t
  have hw := bucket_works hI.reach.wf (gmix (Sp.hash key (keyS t)))
  rw [ha] at hw
  have hlt := (start_works r n _ hn h1).1 hw
  rw [h7, ho]
  unfold pickB ownN
  rw [ha, if_pos hlt]
end
end Po
end Go.Proofs.Ytckkdgifjgkoaaa
