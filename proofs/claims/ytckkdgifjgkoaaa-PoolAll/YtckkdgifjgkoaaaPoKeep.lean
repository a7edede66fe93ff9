/- The pool of chapter 13 keeps what holds of it, whoever comes, drains and goes. Nothing of the program is in here. -/
import Derived.Test.YtckkdgifjgkoaaaPoInv
import Derived.Test.YtckkdgifjgkoaaaGPo
namespace Go.Proofs.Ytckkdgifjgkoaaa
open An
namespace Po
theorem uniq : ∀ (L : List Mem), Rises L → ∀ x y, x ∈ L → y ∈ L → x.id = y.id → x = y
  | [], _, _, _, h, _, _ => by simp at h
  | a :: L, hs, x, y, hx, hy, e => by
    have hs' := List.pairwise_cons.1 hs
    rcases List.mem_cons.1 hx with e1 | h1
    · rcases List.mem_cons.1 hy with e2 | h2
      · rw [e1, e2]
      · have := hs'.1 y h2
        rw [← e1] at this
        omega
    · rcases List.mem_cons.1 hy with e2 | h2
      · have := hs'.1 x h1
        rw [← e2] at this
        omega
      · exact uniq L hs'.2 x y h1 h2 e
theorem mem_set_ne : ∀ (L : List Mem) (i : Nat) (m x y : Mem), L[i]? = some m → y ∈ L → y ≠ m → y ∈ L.set i x
  | [], _, _, _, _, _, h, _ => by simp at h
  | a :: L, 0, m, x, y, hm, h, hne => by
    simp at hm
    subst hm
    rcases List.mem_cons.1 h with h | h
    · exact absurd h hne
    · exact List.mem_cons_of_mem _ h
  | a :: L, i + 1, m, x, y, hm, h, hne => by
    rcases List.mem_cons.1 h with rfl | h
    · exact List.mem_cons_self
    · exact List.mem_cons_of_mem _ (mem_set_ne L i m x y (by simpa using hm) h hne)
theorem mem_erase_ne : ∀ (L : List Mem) (i : Nat) (m y : Mem), L[i]? = some m → y ∈ L → y ≠ m → y ∈ L.eraseIdx i
  | [], _, _, _, _, h, _ => by simp at h
  | a :: L, 0, m, y, hm, h, hne => by
    simp at hm
    subst hm
    rcases List.mem_cons.1 h with h | h
    · exact absurd h hne
    · exact h
  | a :: L, i + 1, m, y, hm, h, hne => by
    rcases List.mem_cons.1 h with rfl | h
    · exact List.mem_cons_self
    · exact List.mem_cons_of_mem _ (mem_erase_ne L i m y (by simpa using hm) h hne)
theorem active_pos : ∀ (L : List Mem) (m : Mem), m ∈ L → m.st = 1 → 1 ≤ active L
  | L, m, h, hs => by
    unfold active
    exact List.length_pos_of_mem (List.mem_filter.2 ⟨h, by simpa using hs⟩)
end Po
section
variable {room : Nat} {a : An} {L : List Mem} {own : Nat → Nat}
/-- The first one. -/
theorem PInv.first (h : PInv room a L own) (h0 : Po.active L = 0) (x : Mem) (hid : 1 ≤ x.id ∧ x.id ≤ 65535) (hx : x.st = 1) (hk : x.bk < room) (hA : a.A x.bk = 0) (ht : Po.there L x.id = false) :
    PInv room a (L.take (Po.place L x.id) ++ x :: L.drop (Po.place L x.id)) (upd own x.bk x.id) := by
  have none : ∀ m ∈ L, m.st ≠ 1 := fun m hm hs => by have := Po.active_pos L m hm hs; omega
  have hn : a.n = 1 := by rw [h.cnt, h0]; rfl
  have wf := h.reach.wf
  refine ⟨h.reach, Po.rises_put L x h.ids ht, fun m hm => ?_, fun m hm => ?_, fun m hm hs => ?_, fun k hk' ho => ?_, ?_, fun _ k hw => ?_⟩
  · rcases (Po.mem_put L x m _).1 hm with rfl | hm
    · exact hid
    · exact h.idr m hm
  · rcases (Po.mem_put L x m _).1 hm with rfl | hm
    · exact .inl hx
    · exact h.st m hm
  · rcases (Po.mem_put L x m _).1 hm with rfl | hm
    · exact ⟨hk, hA, by rw [upd_same]⟩
    · exact absurd hs (none m hm)
  · by_cases e : k = x.bk
    · subst e
      exact ⟨x, (Po.mem_put L x x _).2 (.inl rfl), hx, rfl, by rw [upd_same]⟩
    · rw [upd_other _ _ _ _ e] at ho
      obtain ⟨m, hm, hs, _⟩ := h.owns k hk' ho
      exact absurd hs (none m hm)
  · rw [Po.active_put L x _ hx, h0, hn]; rfl
  · have h1 := (wf.lw k hw)
    have h2 := (wf.lw x.bk ⟨by rw [h.reach.room]; exact hk, hA⟩)
    have e : k = x.bk := by rw [← h1.2, ← h2.2, show a.L k = 0 by omega, show a.L x.bk = 0 by omega]
    rw [e, upd_same]
    omega
/-- Another one. -/
theorem PInv.more (h : PInv room a L own) (h0 : 0 < Po.active L) (hf : Po.active L ≠ room) : ∃ k : Nat, addB a = (k : Int) ∧ k < room ∧ ∀ x : Mem, 1 ≤ x.id ∧ x.id ≤ 65535 → x.st = 1 → x.bk = k → Po.there L x.id = false →
    PInv room (addS a) (L.take (Po.place L x.id) ++ x :: L.drop (Po.place L x.id)) (upd own k x.id) := by
  rcases add_last h.reach with ⟨_, h2, _⟩ | ⟨t, k, _, h2, h3, h4, h5, h6, _, h8, _⟩
  · exfalso
    have hn := h.cnt
    rw [h2] at hn
    have : room = max 1 (Po.active L) := hn
    omega
  · have ht := h3.room
    have hkr : k < room := by have := h4.1; omega
    refine ⟨k, h6, hkr, fun x hid hx hb hth => ?_⟩
    rw [h8]
    have eA : a.A = upd t.A k (t.n - 1) := by rw [h2]; rfl
    have hak : a.A k ≠ 0 := by rw [eA, upd_same]; omega
    have hat : ∀ j, j ≠ k → a.A j = t.A j := fun j hj => by rw [eA, upd_other _ _ _ _ hj]
    have hn : a.n = t.n - 1 := by rw [h2]; rfl
    refine ⟨h3, Po.rises_put L x h.ids hth, fun m hm => ?_, fun m hm => ?_, fun m hm hs => ?_, fun j hj ho => ?_, ?_, fun _ j hw => ?_⟩
    · rcases (Po.mem_put L x m _).1 hm with rfl | hm
      · exact hid
      · exact h.idr m hm
    · rcases (Po.mem_put L x m _).1 hm with rfl | hm
      · exact .inl hx
      · exact h.st m hm
    · rcases (Po.mem_put L x m _).1 hm with rfl | hm
      · exact ⟨by omega, by rw [hb]; exact h4.2, by rw [hb, upd_same]⟩
      · obtain ⟨q1, q2, q3⟩ := h.act m hm hs
        have hne : m.bk ≠ k := fun e => hak (e ▸ q2)
        exact ⟨q1, by rw [← hat _ hne]; exact q2, by rw [upd_other _ _ _ _ hne]; exact q3⟩
    · by_cases e : j = k
      · subst e
        exact ⟨x, (Po.mem_put L x x _).2 (.inl rfl), hx, hb, by rw [upd_same]⟩
      · rw [upd_other _ _ _ _ e] at ho ⊢
        obtain ⟨m, hm, hs, q1, q2⟩ := h.owns j hj ho
        exact ⟨m, (Po.mem_put L x m _).2 (.inr hm), hs, q1, q2⟩
    · rw [Po.active_put L x _ hx]
      have := h.cnt
      omega
    · by_cases e : j = k
      · rw [e, upd_same]; omega
      · rw [upd_other _ _ _ _ e]
        exact h.full h0 j ⟨by have := hw.1; have := h.reach.room; omega, by rw [hat _ e]; exact hw.2⟩
/-- One that is active drains. -/
theorem PInv.drain (h : PInv room a L own) {i : Nat} {m : Mem} (hm : L[i]? = some m) (hs : m.st = 1) : PInv room (Po.leaveS a L m.bk) (L.set i (Po.off m)) (upd own m.bk 0) := by
  have hmem := List.mem_of_getElem? hm
  obtain ⟨q1, q2, q3⟩ := h.act m hmem hs
  have hap := Po.active_pos L m hmem hs
  have hoff := Po.active_off L i m (Po.off m) hm hs (by show (2 : Nat) ≠ 1; decide)
  have hrises := Po.rises_set L i m (Po.off m) h.ids hm rfl
  have hin : Po.off m ∈ L.set i (Po.off m) := List.mem_of_getElem? (List.getElem?_set_self (List.getElem?_eq_some_iff.1 hm).1)
  have old : ∀ y ∈ L.set i (Po.off m), y.st = 1 → y ∈ L ∧ y.bk ≠ m.bk := fun y hy hys => by
    rcases List.mem_or_eq_of_mem_set hy with h1 | h1
    · refine ⟨h1, fun e => ?_⟩
      have q4 := (h.act y h1 hys).2.2
      rw [e, q3] at q4
      have := Po.uniq _ hrises y (Po.off m) hy hin q4.symm
      rw [this] at hys
      exact absurd hys (by show ¬ (2 : Nat) = 1; decide)
    · rw [h1] at hys
      exact absurd hys (by show ¬ (2 : Nat) = 1; decide)
  have hcnt := h.cnt
  have common : (∀ y ∈ L.set i (Po.off m), 1 ≤ y.id ∧ y.id ≤ 65535) ∧ (∀ y ∈ L.set i (Po.off m), y.st = 1 ∨ y.st = 2) ∧ (∀ k, k < room → upd own m.bk 0 k ≠ 0 → ∃ y ∈ L.set i (Po.off m), y.st = 1 ∧ y.bk = k ∧ y.id = upd own m.bk 0 k) := by
    refine ⟨fun y hy => ?_, fun y hy => ?_, fun k hk ho => ?_⟩
    · rcases List.mem_or_eq_of_mem_set hy with h1 | h1
      · exact h.idr y h1
      · rw [h1]; exact h.idr m hmem
    · rcases List.mem_or_eq_of_mem_set hy with h1 | h1
      · exact h.st y h1
      · rw [h1]; exact .inr rfl
    · by_cases e : k = m.bk
      · rw [e, upd_same] at ho; exact absurd rfl ho
      · rw [upd_other _ _ _ _ e] at ho ⊢
        obtain ⟨y, hy, r1, r2, r3⟩ := h.owns k hk ho
        exact ⟨y, Po.mem_set_ne L i m _ y hm hy (fun e2 => e (by rw [← r2, e2])), r1, r2, r3⟩
  obtain ⟨k1, k2, k3⟩ := common
  unfold Po.leaveS
  by_cases h1 : 1 < Po.active L
  · rw [if_pos h1]
    have hw : Works a m.bk := ⟨by rw [h.reach.room]; exact q1, q2⟩
    have hn2 : 2 ≤ a.n := by omega
    have hrem : remS a (m.bk : Int) = remove a m.bk := by
      unfold remS
      rw [if_pos ⟨⟨by omega, by have := hw.1; omega, q2⟩, by omega⟩]
      rfl
    rw [hrem]
    refine ⟨.rem _ _ h.reach hw hn2, hrises, k1, k2, fun y hy hys => ?_, k3, ?_, fun _ k hk => ?_⟩
    · obtain ⟨r1, r2⟩ := old y hy hys
      obtain ⟨r3, r4, r5⟩ := h.act y r1 hys
      exact ⟨r3, by show upd a.A m.bk (a.n - 1) y.bk = 0; rw [upd_other _ _ _ _ r2]; exact r4, by rw [upd_other _ _ _ _ r2]; exact r5⟩
    · show a.n - 1 = _
      omega
    · have hk2 : upd a.A m.bk (a.n - 1) k = 0 := hk.2
      by_cases e : k = m.bk
      · rw [e, upd_same] at hk2; omega
      · rw [upd_other _ _ _ _ e] at hk2 ⊢
        exact h.full hap k ⟨hk.1, hk2⟩
  · rw [if_neg h1]
    refine ⟨h.reach, hrises, k1, k2, fun y hy hys => ?_, k3, by omega, fun hp => by omega⟩
    obtain ⟨r1, r2⟩ := old y hy hys
    have := Po.active_pos _ y hy hys
    omega
/-- One that drains goes. -/
theorem PInv.gone (h : PInv room a L own) {i : Nat} {m : Mem} (hm : L[i]? = some m) (hs : m.st ≠ 1) : PInv room a (L.eraseIdx i) own := by
  have sub : ∀ y, y ∈ L.eraseIdx i → y ∈ L := fun y hy => (List.eraseIdx_sublist L i).subset hy
  have hact := Po.active_erase L i m hm
  rw [if_neg hs] at hact
  refine ⟨h.reach, Po.rises_erase h.ids i, fun y hy => h.idr y (sub y hy), fun y hy => h.st y (sub y hy), fun y hy => h.act y (sub y hy), fun k hk ho => ?_, by rw [h.cnt]; congr 1; omega, fun hp => h.full (by omega)⟩
  obtain ⟨y, hy, r1, r2, r3⟩ := h.owns k hk ho
  exact ⟨y, Po.mem_erase_ne L i m y hm hy (fun e => hs (e ▸ r1)), r1, r2, r3⟩
/-- One that is active goes. -/
theorem PInv.leaves (h : PInv room a L own) {i : Nat} {m : Mem} (hm : L[i]? = some m) (hs : m.st = 1) : PInv room (Po.leaveS a L m.bk) (L.eraseIdx i) (upd own m.bk 0) := by
  have h1 := (h.drain hm hs).gone (i := i) (m := Po.off m) (List.getElem?_set_self (List.getElem?_eq_some_iff.1 hm).1) (by show (2 : Nat) ≠ 1; decide)
  rw [erase_set] at h1
  exact h1
theorem pinv_start (room : Nat) (h : 1 ≤ room) : PInv room (An.start room 1) [] (fun _ => 0) :=
  ⟨reach_start room (room - 1) 1 rfl (Nat.le_refl _) h, List.Pairwise.nil, fun _ h => by simp at h, fun _ h => by simp at h, fun _ h => by simp at h, fun _ _ h => absurd rfl h, rfl, fun h => by simp [Po.active] at h⟩
/-- As many as there is room, at most. -/
theorem PInv.lim (h : PInv room a L own) : Po.active L ≤ room := by
  have h1 := h.reach.wf.nr
  have h2 := h.reach.room
  have h3 := h.cnt
  omega
end
end Go.Proofs.Ytckkdgifjgkoaaa
