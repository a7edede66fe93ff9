/- The reference's pool of chapter 13 in memory: its anchor, its members as a row, whose the buckets are. -/
import Derived.Test.YtckkdgifjgkoaaaAnReach
import Derived.Test.YtckkdgifjgkoaaaAnRTell
import Derived.Test.YtckkdgifjgkoaaaAnRNew
namespace Go.Proofs.Ytckkdgifjgkoaaa
open Go.ChangeShapes Go.WideShapes Go.ChangeAt Go.RowKit An

structure Mem where
  id : Nat
  addr : Nat
  port : Nat
  st : Nat
  bk : Nat
def Mem.cells (m : Mem) : List Value := [.int .i64 (m.id : Int), .int .u32 (m.addr : Int), .int .i64 (m.port : Int), .int .i64 (m.st : Int), .int .i64 (m.bk : Int)]
def mcells (L : List Mem) : List Value := L.flatMap Mem.cells
theorem mcells_length (L : List Mem) : (mcells L).length = L.length * 5 := by
  induction L with
  | nil => rfl
  | cons m L ih => show (Mem.cells m ++ mcells L).length = _; rw [List.length_append, ih, List.length_cons]; show 5 + _ = _; omega
theorem mcells_append (L M : List Mem) : mcells (L ++ M) = mcells L ++ mcells M := by unfold mcells; rw [List.flatMap_append]
theorem mcells_get : ∀ (L : List Mem) (i : Nat) (m : Mem), L[i]? = some m → ∀ j, j < 5 → (mcells L)[i * 5 + j]? = m.cells[j]?
  | [], i, m, h, _, _ => by simp at h
  | a :: L, 0, m, h, j, hj => by
    simp at h
    subst h
    show (Mem.cells a ++ mcells L)[0 * 5 + j]? = _
    rw [Nat.zero_mul, Nat.zero_add, List.getElem?_append_left hj]
  | a :: L, i + 1, m, h, j, hj => by
    have ih := mcells_get L i m (by simpa using h) j hj
    show (Mem.cells a ++ mcells L)[(i + 1) * 5 + j]? = _
    rw [List.getElem?_append_right (by show 5 ≤ _; omega), ← ih]
    congr 1
    show (i + 1) * 5 + j - 5 = _
    omega
theorem mcells_take (L : List Mem) (i : Nat) : mcells (L.take i) = (mcells L).take (i * 5) := by
  induction L generalizing i with
  | nil => simp [mcells]
  | cons a L ih =>
    cases i with
    | zero => simp [mcells]
    | succ i =>
      show Mem.cells a ++ mcells (L.take i) = (Mem.cells a ++ mcells L).take ((i + 1) * 5)
      rw [ih, List.take_append]
      have e : (i + 1) * 5 - (Mem.cells a).length = i * 5 := by show (i + 1) * 5 - 5 = _; omega
      rw [e, List.take_of_length_le (l := a.cells) (by show 5 ≤ (i + 1) * 5; omega)]

structure RBk where
  p : Nat
  bk : Bk
  o : Nat
  co : Nat
/-- The struct's cells. -/
def hdP (key : ByteArray) (room : Nat) (b : RBk) (vL : Value) : List Value :=
  [.string key, .pointer (some ⟨b.bk.p, 0, none⟩), vL, .slice (some ⟨b.o, 0, none⟩) room b.co, .int .i64 (room : Int)]
structure RAt (base : Nat) (W : World) (key : ByteArray) (room : Nat) (b : RBk) (v vL : Value) (s : An) (L : List Mem) (own : Nat → Nat) : Prop where
  head : Row W b.p (hdP key room b vL)
  an : AnAt hdR base W b.bk v s
  row : W.ownsRow base 48 5 vL L.length (mcells L)
  own : Lst W b.o room own
  gp : base ≤ b.p
  go : base ≤ b.o
  po : b.p ≠ b.o
  pl : vL.ownBlock ≠ some b.p
  ol : vL.ownBlock ≠ some b.o
  pf : b.p ∉ feet b.bk v
  of : b.o ∉ feet b.bk v
  lf : ∀ x, vL.ownBlock = some x → x ∉ feet b.bk v
/-- All its blocks. -/
def rfeet (b : RBk) (v vL : Value) : List Nat := b.p :: b.o :: (vL.ownBlock.toList ++ feet b.bk v)
section
variable {base : Nat} {W W' : World} {key : ByteArray} {room : Nat} {b : RBk} {v vL : Value} {s : An} {L : List Mem} {own : Nat → Nat}
theorem RAt.lt (h : RAt base W key room b v vL s L own) : ∀ x ∈ rfeet b v vL, base ≤ x ∧ x < W.heap.size := by
  intro x hx
  unfold rfeet at hx
  rcases List.mem_cons.1 hx with rfl | hx
  · exact ⟨h.gp, h.head.lt⟩
  · rcases List.mem_cons.1 hx with rfl | hx
    · exact ⟨h.go, h.own.lt⟩
    · rcases List.mem_append.1 hx with hx | hx
      · rw [Option.mem_toList] at hx
        exact h.row.lt x hx
      · exact h.an.lt x hx
theorem RAt.of_blocks (h : RAt base W key room b v vL s L own) (e : ∀ x ∈ rfeet b v vL, W'.heap[x]? = W.heap[x]?) : RAt base W' key room b v vL s L own := by
  refine ⟨h.head.of_block (e _ (by simp [rfeet])), h.an.of_blocks fun x hx => e x (by simp [rfeet, hx]), own_of_block h.row fun g hg => e g (by simp [rfeet, hg]), h.own.of_block (e _ (by simp [rfeet])), h.gp, h.go, h.po, h.pl, h.ol, h.pf, h.of, h.lf⟩
theorem RAt.on (h : RAt base W key room b v vL s L own) (hb : Below W.heap.size W W') : RAt base W' key room b v vL s L own := h.of_blocks fun x hx => hb.block x (h.lt x hx).2
theorem RAt.drew (h : RAt base W key room b v vL s L own) : RAt base W.drew key room b v vL s L own := h.of_blocks fun _ _ => rfl
theorem RAt.drewN (h : RAt base W key room b v vL s L own) (n : Nat) : RAt base (W.drewN n) key room b v vL s L own := h.of_blocks fun _ _ => rfl
theorem RAt.cells (h : RAt base W key room b v vL s L own) : W.cell? ⟨b.p, 0, none⟩ = some (.string key) ∧ W.cell? ⟨b.p, 1, none⟩ = some (.pointer (some ⟨b.bk.p, 0, none⟩)) ∧ W.cell? ⟨b.p, 2, none⟩ = some vL ∧ W.cell? ⟨b.p, 3, none⟩ = some (.slice (some ⟨b.o, 0, none⟩) room b.co) ∧ W.cell? ⟨b.p, 4, none⟩ = some (.int .i64 (room : Int)) :=
  ⟨h.head.cell 0 _ rfl, h.head.cell 1 _ rfl, h.head.cell 2 _ rfl, h.head.cell 3 _ rfl, h.head.cell 4 _ rfl⟩
theorem RAt.shape (h : RAt base W key room b v vL s L own) : ∃ a c, vL = .slice a L.length c := by
  rcases h.row.2 with ⟨h1, h2⟩ | ⟨g, cap, cur, h1, _⟩
  · exact ⟨none, 0, by rw [h1, h2]⟩
  · exact ⟨_, _, h1⟩
theorem RAt.mem (h : RAt base W key room b v vL s L own) (i : Nat) (m : Mem) (hm : L[i]? = some m) : ∃ g c, vL = .slice (some ⟨g, 0, none⟩) L.length c ∧ W.cell? ⟨g, i * 5, none⟩ = some (.int .i64 (m.id : Int)) ∧ W.cell? ⟨g, i * 5 + 1, none⟩ = some (.int .u32 (m.addr : Int)) ∧
    W.cell? ⟨g, i * 5 + 2, none⟩ = some (.int .i64 (m.port : Int)) ∧ W.cell? ⟨g, i * 5 + 3, none⟩ = some (.int .i64 (m.st : Int)) ∧ W.cell? ⟨g, i * 5 + 4, none⟩ = some (.int .i64 (m.bk : Int)) ∧ W.frozen? ⟨g, i * 5 + 3, none⟩ = false ∧ W.frozen? ⟨g, i * 5 + 4, none⟩ = false := by
  have hi : i < L.length := (List.getElem?_eq_some_iff.1 hm).1
  have hrow := h.row
  rcases hrow.2 with ⟨_, h2⟩ | ⟨g, cap, cur, rfl, hb, hg, hrest⟩
  · omega
  · have hc := hrow.cells (g := g) rfl
    have get : ∀ j x, j < 5 → m.cells[j]? = some x → W.cell? ⟨g, i * 5 + j, none⟩ = some x := fun j x hj hx => by
      have := hc (i * 5 + j) x ((mcells_get L i m hm j hj).trans hx)
      rw [show (⟨g, 0, none⟩ : Addr).add (i * 5 + j) = ⟨g, i * 5 + j, none⟩ by unfold Addr.add; split <;> simp_all] at this
      exact this
    have fr : ∀ j, W.frozen? ⟨g, j, none⟩ = false := fun j => by unfold World.frozen?; simp only [hg]; simp
    exact ⟨g, cap, rfl, get 0 _ (by decide) rfl, get 1 _ (by decide) rfl, get 2 _ (by decide) rfl, get 3 _ (by decide) rfl, get 4 _ (by decide) rfl, fr _, fr _⟩
end
namespace Po
/-- Where an ID stands, or would; whether it is there; how many are active. -/
def place (L : List Mem) (id : Int) : Nat := (L.takeWhile fun m => decide ((m.id : Int) < id)).length
def there (L : List Mem) (id : Int) : Bool := match L[place L id]? with | some m => (m.id : Int) == id | none => false
def active (L : List Mem) : Nat := (L.filter fun m => m.st == 1).length
theorem place_le (L : List Mem) (id : Int) : place L id ≤ L.length := by
  unfold place
  exact (List.takeWhile_sublist _).length_le
theorem place_go (L : List Mem) (id : Int) (i : Nat) (m : Mem) (hm : L[i]? = some m) (hi : i ≤ place L id) (hlt : (m.id : Int) < id) : i + 1 ≤ place L id := by
  unfold place at *
  induction L generalizing i with
  | nil => simp at hm
  | cons a L ih =>
    rw [List.takeWhile_cons] at hi ⊢
    cases i with
    | zero =>
      simp at hm
      subst hm
      rw [if_pos (by simpa using hlt), List.length_cons]; omega
    | succ i =>
      split at hi
      · rename_i ha
        rw [if_pos ha, List.length_cons]
        rw [List.length_cons] at hi
        have := ih i (by simpa using hm) (by omega)
        omega
      · simp at hi
theorem place_at (id : Int) (m : Mem) (hn : ¬ (m.id : Int) < id) : ∀ (L : List Mem) (i : Nat), i ≤ place L id → L[i]? = some m → i = place L id
  | [], _, _, hm => by simp at hm
  | a :: L, i, hi, hm => by
    unfold place at hi ⊢
    rw [List.takeWhile_cons] at hi ⊢
    cases i with
    | zero =>
      simp at hm
      subst hm
      rw [if_neg (by simpa using hn)]; rfl
    | succ i =>
      split at hi
      · rename_i ha
        rw [if_pos ha, List.length_cons]
        rw [List.length_cons] at hi
        have := place_at id m hn L i (by unfold place; omega) (by simpa using hm)
        unfold place at this
        omega
      · simp at hi
theorem place_stop (L : List Mem) (id : Int) (i : Nat) (hi : i ≤ place L id) (h : L.length ≤ i ∨ ∃ m, L[i]? = some m ∧ ¬ (m.id : Int) < id) : i = place L id := by
  rcases h with h | ⟨m, hm, hn⟩
  · have := place_le L id; omega
  · exact place_at id m hn L i hi hm
theorem active_take (L : List Mem) (i : Nat) (m : Mem) (hm : L[i]? = some m) : active (L.take (i + 1)) = active (L.take i) + if m.st = 1 then 1 else 0 := by
  unfold active
  have hi : i < L.length := (List.getElem?_eq_some_iff.1 hm).1
  rw [List.take_add_one, hm, List.filter_append, List.length_append]
  congr 1
  by_cases h : m.st = 1
  · simp [h]
  · simp [h]
theorem active_le (L : List Mem) : active L ≤ L.length := List.length_filter_le _ _
end Po
end Go.Proofs.Ytckkdgifjgkoaaa
