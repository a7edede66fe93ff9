/- Active and place of the reference of chapter 13. -/
import Derived.Test.YtckkdgifjgkoaaaPoMem
namespace Go.Proofs.Ytckkdgifjgkoaaa
open Go.ChangeShapes Go.WideShapes Go.ChangeAt Go.RowKit An

section
variable {base : Nat} {w : World} {key : ByteArray} {room : Nat} {b : RBk} {v vL : Value} {s : An} {L : List Mem} {own : Nat → Nat}
theorem get_of (L : List Mem) (i : Nat) (h : i < L.length) : ∃ m, L[i]? = some m := ⟨_, List.getElem?_eq_getElem h⟩
set_option maxRecDepth 100000 in
set_option maxHeartbeats 1000000 in
theorem ractive_any (h : RAt base w key room b v vL s L own) (hl : L.length ≤ 1000000) :
    Calls Try.prog 13 #[.pointer (some ⟨b.p, 0, none⟩)] w fun e w' => e = .returned (.int .i64 (Po.active L : Nat)) ∧ w' = w := by
  obtain ⟨_, _, c2, _, _⟩ := h.cells
  obtain ⟨a, cap, hv⟩ := h.shape
  rw [hv] at c2
  go_enter Try.func13, Try.ntmps13
  go_wp2_with fail
  go_loop [3, 4] (fun x y => ∃ i : Nat, i ≤ L.length ∧ x = .int .i64 (Po.active (L.take i) : Nat) ∧ y = .int .i64 (i : Int)) (fun _ y => L.length - (intOf y).toNat)
  case atStart => exact ⟨0, Nat.zero_le _, rfl, rfl⟩
  case round =>
    obtain ⟨i, hi, rfl, rfl⟩ := hrel
    by_cases hlt : i < L.length
    · obtain ⟨m, hm⟩ := get_of L i hlt
      obtain ⟨g, c, hv2, m0, m1, m2, m3, m4, _, _⟩ := h.mem i m hm
      have hlt1 : (i : Int) < L.length := by omega
      obtain ⟨rfl, hc⟩ : a = some ⟨g, 0, none⟩ ∧ cap = c := by rw [hv] at hv2; cases hv2; exact ⟨rfl, rfl⟩
      have e := Po.active_take L i m hm
      have hb := Po.active_le (L.take i)
      have hb2 : (L.take i).length ≤ L.length := by rw [List.length_take]; omega
      generalize Po.active (L.take i) = A at *
      have hA : (A : Int) ≤ 1000000 := by omega
      have hib : (i : Int) ≤ 1000000 := by omega
      by_cases h1 : m.st = 1
      · have e2 : Po.active (L.take (i + 1)) = A + 1 := by rw [e, if_pos h1]
        have HE : Shut (Po.active (L.take (i + 1)) = A + 1) := ⟨e2⟩
        rw [h1] at m3
        clear e e2 hb hb2 hv hv2 hc h1 m0 m1 m2 m4 hl
        go_wp2_with fail
        go_round
        case rel => exact ⟨i + 1, by omega, by rw [HE.out]; rfl, by go_num⟩
        case measure => simp [intOf]; omega
      · have e2 : Po.active (L.take (i + 1)) = A := by rw [e, if_neg h1]; rfl
        have HE : Shut (Po.active (L.take (i + 1)) = A) := ⟨e2⟩
        have h2 : ((m.st : Int) == 1) = false := by rw [beq_eq_false_iff_ne]; omega
        have h3 : (m.st == 1) = false := by rw [beq_eq_false_iff_ne]; exact h1
        clear e e2 hb hb2 hv hv2 hc m0 m1 m2 m4 hl
        go_wp2_with fail
        go_round
        case rel => exact ⟨i + 1, by omega, by rw [HE.out], by go_num⟩
        case measure => simp [intOf]; omega
    · have hd : decide ((i : Int) < L.length) = false := by simp; omega
      have hd2 : decide (i < L.length) = false := by simp; omega
      have e : L.take i = L := List.take_of_length_le (by omega)
      have HE : Shut (L.take i = L) := ⟨e⟩
      clear hl e
      go_wp2_with fail
      go_ret
      exact ⟨by rw [HE.out]; rfl, rfl⟩

set_option maxRecDepth 100000 in
set_option maxHeartbeats 2000000 in
theorem rplace_any (h : RAt base w key room b v vL s L own) (hl : L.length ≤ 1000000) (id : Int) :
    Calls Try.prog 44 #[.pointer (some ⟨b.p, 0, none⟩), .int .i64 id] w fun e w' => e = .returned (.tuple #[.int .i64 (Po.place L id : Nat), .bool (Po.there L id)]) ∧ ∃ n, w' = w.drewN n := by
  obtain ⟨_, _, c2, _, _⟩ := h.cells
  obtain ⟨a, cap, hv⟩ := h.shape
  rw [hv] at c2
  obtain ⟨p0, hp0⟩ : ∃ p0, Po.place L id = p0 := ⟨_, rfl⟩
  obtain ⟨t0, ht0⟩ : ∃ t0, Po.there L id = t0 := ⟨_, rfl⟩
  have HP0 : Shut (Po.place L id = p0) := ⟨hp0⟩
  have HT0 : Shut (Po.there L id = t0) := ⟨ht0⟩
  rw [hp0, ht0]
  clear hp0 ht0
  go_enter Try.func44, Try.ntmps44
  go_wp2_with fail
  go_loop [6] (fun y => ∃ i : Nat, i ≤ Po.place L id ∧ y = .int .i64 (i : Int)) (fun y => L.length - (intOf y).toNat)
  case atStart => exact ⟨0, Nat.zero_le _, rfl⟩
  case round =>
    obtain ⟨i, hi, rfl⟩ := hrel
    have hpl := Po.place_le L id
    have hib : (i : Int) ≤ 1000000 := by omega
    by_cases hlt : i < L.length
    · obtain ⟨m, hm⟩ := get_of L i hlt
      obtain ⟨g, c, hv2, m0, m1, m2, m3, m4, _, _⟩ := h.mem i m hm
      have hlt1 : (i : Int) < L.length := by omega
      obtain ⟨rfl, hc⟩ : a = some ⟨g, 0, none⟩ ∧ cap = c := by rw [hv] at hv2; cases hv2; exact ⟨rfl, rfl⟩
      by_cases hid : (m.id : Int) < id
      · have hg := Po.place_go L id i m hm hi hid
        have HG : Shut (i + 1 ≤ Po.place L id) := ⟨hg⟩
        have HP : Shut (Po.place L id ≤ L.length) := ⟨hpl⟩
        clear hv hv2 hc m1 m2 m3 m4 hl hg hi hpl
        go_wp2_with fail
        go_round
        case rel => exact ⟨i + 1, HG.out, by go_num⟩
        case measure => simp [intOf]; have := HG.out; have := HP.out; omega
      · have e := Po.place_stop L id i hi (.inr ⟨m, hm, hid⟩)
        have ht : Po.there L id = ((m.id : Int) == id) := by unfold Po.there; rw [← e, hm]
        have HF : Shut (i = p0 ∧ ((m.id : Int) == id) = t0) := ⟨e.trans HP0.out, ht.symm.trans HT0.out⟩
        have hd : decide ((m.id : Int) < id) = false := by simpa using hid
        clear hv hv2 hc m1 m2 m3 m4 hl e hi hpl ht HP0 HT0
        by_cases he : (m.id : Int) = id
        · rw [he] at m0
          have hb : ((m.id : Int) == id) = true := by rw [he]; exact beq_self_eq_true _
          have HF2 : Shut (i = p0 ∧ true = t0) := ⟨HF.out.1, hb.symm.trans HF.out.2⟩
          clear he hb hid hd HF
          have hd : ¬ id < id := by omega
          go_wp2_with fail
          go_quiet (fail)
          go_wp2_with fail
          go_ret2
          exact ⟨by rw [← HF2.out.1, ← HF2.out.2]; simp, _, rfl⟩
        · have hb : ((m.id : Int) == id) = false := by rw [beq_eq_false_iff_ne]; exact he
          have HF2 : Shut (i = p0 ∧ false = t0) := ⟨HF.out.1, hb.symm.trans HF.out.2⟩
          clear HF
          go_wp2_with fail
          go_quiet (fail)
          go_wp2_with fail
          go_ret2
          exact ⟨by rw [← HF2.out.1, ← HF2.out.2]; first | rfl | simp, _, rfl⟩
    · have e := Po.place_stop L id i hi (.inl (by omega))
      have ht : Po.there L id = false := by unfold Po.there; rw [← e, List.getElem?_eq_none (by omega)]
      have hil : i = L.length := by omega
      have HF2 : Shut (i = p0 ∧ false = t0) := ⟨e.trans HP0.out, ht.symm.trans HT0.out⟩
      have hd : decide ((i : Int) < L.length) = false := by simp; omega
      have hd2 : decide (i < L.length) = false := by simp; omega
      clear hl e hi hpl ht hil HP0 HT0
      go_wp2_with fail
      go_quiet (fail)
      go_wp2_with fail
      go_ret2
      exact ⟨by rw [← HF2.out.1, ← HF2.out.2]; first | rfl | simp, _, rfl⟩
end
end Go.Proofs.Ytckkdgifjgkoaaa
