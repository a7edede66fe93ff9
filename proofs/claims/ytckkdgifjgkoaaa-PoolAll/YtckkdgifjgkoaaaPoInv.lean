/- The mathematics of the pool of chapter 13. Nothing of the program is in here. -/
import Derived.Test.YtckkdgifjgkoaaaPoMem
namespace Go.Proofs.Ytckkdgifjgkoaaa
open An
namespace Po
def Rises (L : List Mem) : Prop := L.Pairwise fun a b => a.id < b.id
theorem place_of : ∀ (L : List Mem) (_ : Rises L) (m : Mem), m ∈ L → L[place L m.id]? = some m
  | [], _, m, h => by simp at h
  | a :: L, hs, m, h => by
    have hs' := List.pairwise_cons.1 hs
    unfold place
    rw [List.takeWhile_cons]
    by_cases e : a = m
    · subst e
      rw [if_neg (by simp)]; rfl
    · have hm : m ∈ L := by
        rcases List.mem_cons.1 h with h | h
        · exact absurd h.symm e
        · exact h
      have hlt := hs'.1 m hm
      rw [if_pos (by simp; omega), List.length_cons]
      have ih := place_of L hs'.2 m hm
      unfold place at ih
      simpa using ih
theorem there_of {L : List Mem} (hs : Rises L) {m : Mem} (h : m ∈ L) : there L m.id = true := by
  unfold there
  rw [place_of L hs m h]
  simp
theorem there_iff {L : List Mem} (hs : Rises L) (id : Int) : there L id = true ↔ ∃ m ∈ L, (m.id : Int) = id := by
  constructor
  · intro h
    unfold there at h
    cases e : L[place L id]? with
    | none => rw [e] at h; cases h
    | some m => rw [e] at h; exact ⟨m, List.mem_of_getElem? e, by simpa using h⟩
  · rintro ⟨m, h, rfl⟩
    exact there_of hs h
theorem rises_erase {L : List Mem} (hs : Rises L) (i : Nat) : Rises (L.eraseIdx i) := hs.sublist (List.eraseIdx_sublist L i)
theorem rises_set : ∀ (L : List Mem) (i : Nat) (m m' : Mem), Rises L → L[i]? = some m → m'.id = m.id → Rises (L.set i m')
  | [], i, m, _, _, h, _ => by simp at h
  | a :: L, 0, m, m', hs, h, he => by
    simp at h
    subst h
    have hs' := List.pairwise_cons.1 hs
    exact List.pairwise_cons.2 ⟨fun x hx => by rw [he]; exact hs'.1 x hx, hs'.2⟩
  | a :: L, i + 1, m, m', hs, h, he => by
    have hs' := List.pairwise_cons.1 hs
    have hm : L[i]? = some m := by simpa using h
    refine List.pairwise_cons.2 ⟨fun x hx => ?_, rises_set L i m m' hs'.2 hm he⟩
    rcases List.mem_or_eq_of_mem_set hx with h1 | h1
    · exact hs'.1 x h1
    · rw [h1, he]; exact hs'.1 m (List.mem_of_getElem? hm)
theorem rises_put : ∀ (L : List Mem) (x : Mem), Rises L → there L x.id = false → Rises (L.take (place L x.id) ++ x :: L.drop (place L x.id))
  | [], x, _, _ => by simp [Rises]
  | a :: L, x, hs, ht => by
    have hs' := List.pairwise_cons.1 hs
    by_cases h : (a.id : Int) < x.id
    · have e : place (a :: L) x.id = place L x.id + 1 := by unfold place; rw [List.takeWhile_cons, if_pos (by simpa using h), List.length_cons]
      have ht' : there L x.id = false := by
        unfold there at ht ⊢
        rw [e] at ht
        simpa using ht
      have ih := rises_put L x hs'.2 ht'
      rw [e]
      show Rises (a :: (L.take (place L x.id) ++ x :: L.drop (place L x.id)))
      refine List.pairwise_cons.2 ⟨fun y hy => ?_, ih⟩
      rcases List.mem_append.1 hy with hy | hy
      · exact hs'.1 y (List.mem_of_mem_take hy)
      · rcases List.mem_cons.1 hy with rfl | hy
        · omega
        · exact hs'.1 y (List.mem_of_mem_drop hy)
    · have e : place (a :: L) x.id = 0 := by unfold place; rw [List.takeWhile_cons, if_neg (by simpa using h)]; rfl
      have hne : (a.id : Int) ≠ x.id := by
        unfold there at ht
        rw [e] at ht
        simpa using ht
      rw [e]
      show Rises (x :: a :: L)
      refine List.pairwise_cons.2 ⟨fun y hy => ?_, hs⟩
      rcases List.mem_cons.1 hy with rfl | hy
      · omega
      · have := hs'.1 y hy
        omega
theorem mem_put (L : List Mem) (x y : Mem) (i : Nat) : y ∈ L.take i ++ x :: L.drop i ↔ y = x ∨ y ∈ L := by
  rw [List.mem_append, List.mem_cons]
  constructor
  · rintro (h | h | h)
    · exact .inr (List.mem_of_mem_take h)
    · exact .inl h
    · exact .inr (List.mem_of_mem_drop h)
  · rintro (h | h)
    · exact .inr (.inl h)
    · rw [← List.take_append_drop i L] at h
      rcases List.mem_append.1 h with h | h
      · exact .inl h
      · exact .inr (.inr h)
theorem active_put (L : List Mem) (x : Mem) (i : Nat) (hx : x.st = 1) : active (L.take i ++ x :: L.drop i) = active L + 1 := by
  unfold active
  rw [List.filter_append, List.filter_cons, if_pos (by simpa using hx), List.length_append, List.length_cons]
  have h : (L.filter fun m => m.st == 1).length = ((L.take i).filter fun m => m.st == 1).length + ((L.drop i).filter fun m => m.st == 1).length := by rw [← List.length_append, ← List.filter_append, List.take_append_drop]
  omega
theorem active_off : ∀ (L : List Mem) (i : Nat) (m m' : Mem), L[i]? = some m → m.st = 1 → m'.st ≠ 1 → active (L.set i m') + 1 = active L
  | [], i, m, _, h, _, _ => by simp at h
  | a :: L, 0, m, m', h, h1, h2 => by
    simp at h
    subst h
    unfold active
    rw [List.set_cons_zero, List.filter_cons, List.filter_cons, if_neg (by simpa using h2), if_pos (by simpa using h1), List.length_cons]
  | a :: L, i + 1, m, m', h, h1, h2 => by
    have ih := active_off L i m m' (by simpa using h) h1 h2
    unfold active at ih ⊢
    rw [List.set_cons_succ, List.filter_cons, List.filter_cons]
    split
    · rw [List.length_cons, List.length_cons]; omega
    · exact ih
theorem active_erase : ∀ (L : List Mem) (i : Nat) (m : Mem), L[i]? = some m → active (L.eraseIdx i) + (if m.st = 1 then 1 else 0) = active L
  | [], i, m, h => by simp at h
  | a :: L, 0, m, h => by
    simp at h
    subst h
    unfold active
    rw [List.eraseIdx_cons_zero, List.filter_cons]
    by_cases e : a.st = 1
    · rw [if_pos e, if_pos (by simpa using e), List.length_cons]
    · rw [if_neg e, if_neg (by simpa using e)]; rfl
  | a :: L, i + 1, m, h => by
    have ih := active_erase L i m (by simpa using h)
    unfold active at ih ⊢
    rw [List.eraseIdx_cons_succ, List.filter_cons, List.filter_cons]
    split
    · rw [List.length_cons, List.length_cons]; omega
    · exact ih
end Po
/-- What holds of every pool that is reached. -/
structure PInv (room : Nat) (a : An) (L : List Mem) (own : Nat → Nat) : Prop where
  reach : An.Reach room a
  ids : Po.Rises L
  idr : ∀ m ∈ L, 1 ≤ m.id ∧ m.id ≤ 65535
  st : ∀ m ∈ L, m.st = 1 ∨ m.st = 2
  act : ∀ m ∈ L, m.st = 1 → m.bk < room ∧ a.A m.bk = 0 ∧ own m.bk = m.id
  owns : ∀ k, k < room → own k ≠ 0 → ∃ m ∈ L, m.st = 1 ∧ m.bk = k ∧ m.id = own k
  cnt : a.n = max 1 (Po.active L)
  full : 1 ≤ Po.active L → ∀ k, Works a k → own k ≠ 0
/-- Whoever is chosen is there, and active. -/
theorem PInv.chosen {room : Nat} {a : An} {L : List Mem} {own : Nat → Nat} (h : PInv room a L own) (h1 : 1 ≤ Po.active L) {k : Nat} (hk : Works a k) (hr : k < room) : ∃ m, Po.there L (own k : Int) = true ∧ L[Po.place L (own k : Int)]? = some m ∧ m ∈ L ∧ m.st = 1 ∧ m.bk = k ∧ m.id = own k := by
  obtain ⟨m, hm, h2, h3, h4⟩ := h.owns k hr (h.full h1 k hk)
  exact ⟨m, by rw [← h4]; exact Po.there_of h.ids hm, by rw [← h4]; exact Po.place_of L h.ids m hm, hm, h2, h3, h4⟩
end Go.Proofs.Ytckkdgifjgkoaaa
