/- A region that draws its order, in which a row of one byte and a header's variable are made, and the variable is stored into: what each operation promises. -/
import Derived.Test.YtfppjpcolohmfaaIpGrow
import Derived.Test.YtfppjpcolohmfaaIpSetH
import Derived.Test.YtfppjpcolohmfaaIpHead
namespace Go.Proofs.Ytfppjpcolohmfaa
open Go.RowKit

def madeF (w0 : Nat) (X : Int) (vs : List Value) (i5 i16 i17 i : Nat) (v : Value) (u : World) : Prop :=
  if i = i5 then ∃ g, v = .slice (some ⟨g, 0, none⟩) 1 1 ∧ u.cell? ⟨g, 0, none⟩ = some (.int .u8 X)
  else if i = i16 then ∃ g z, v = .pointer (some ⟨g, 0, none⟩) ∧ w0 ≤ g ∧ NewHd u g z
  else if i = i17 then True else v = vs.getD i undef
section
variable {w0 : Nat} {X : Int} {vs : List Value} {i5 i16 i17 : Nat}
theorem madeF_on {i : Nat} {v : Value} {u u' : World} (h : madeF w0 X vs i5 i16 i17 i v u) (hb : Below u.heap.size u u') : madeF w0 X vs i5 i16 i17 i v u' := by
  unfold madeF at h ⊢
  split
  · rename_i e
    rw [if_pos e] at h
    obtain ⟨g, h1, h2⟩ := h
    exact ⟨g, h1, (hb.cell (block_lt_of_cell h2)).trans h2⟩
  · rename_i e
    rw [if_neg e] at h
    split
    · rename_i e2
      rw [if_pos e2] at h
      obtain ⟨g, z, h1, h2, h3⟩ := h
      exact ⟨g, z, h1, h2, h3.on hb (block_lt_of_cell (h3.at_ 0 (by decide)))⟩
    · rename_i e2
      rw [if_neg e2] at h
      exact h
theorem setHd_free {W : World} {b : Nat} {h : Hd} (p : Addr) : (setHd W b h).frozen? p = W.frozen? p := by
  unfold setHd
  simp only [World.frozen?_setCell]
theorem setHd_cell {W : World} {b g : Nat} (h : Hd) (k : Nat) (hg : g ≠ b) : (setHd W b h).cell? ⟨g, k, none⟩ = W.cell? ⟨g, k, none⟩ := World.cell?_of_block (w := W) (a := ⟨g, k, none⟩) (setHd_heap W b h g hg)
theorem madeF_set {i : Nat} {v : Value} {u : World} {g : Nat} {z x : Hd} (hN : NewHd u g z) (h : madeF w0 X vs i5 i16 i17 i v u) : madeF w0 X vs i5 i16 i17 i v (setHd u g x) := by
  unfold madeF at h ⊢
  split
  · rename_i e
    rw [if_pos e] at h
    obtain ⟨g5, h1, h2⟩ := h
    have hne : g5 ≠ g := by
      intro e
      subst e
      have := hN.at_ 0 (by decide)
      rw [h2] at this
      cases this
    exact ⟨g5, h1, by rw [setHd_cell x 0 hne]; exact h2⟩
  · rename_i e
    rw [if_neg e] at h
    split
    · rename_i e2
      rw [if_pos e2] at h
      obtain ⟨g', z', h1, h2, h3⟩ := h
      by_cases e3 : g' = g
      · subst e3
        exact ⟨g', x, h1, h2, setHd_at x h3.at_, fun j => (setHd_free _).trans (h3.free j)⟩
      · exact ⟨g', z', h1, h2, fun k hk => by rw [setHd_cell x k e3]; exact h3.at_ k hk, fun j => (setHd_free _).trans (h3.free j)⟩
    · rename_i e2
      rw [if_neg e2] at h
      exact h
variable {P : Program} {w u u' : World} {come : Nat → Prop} {i : Nat} {v : Value} {r : Result Next}
theorem made_value (hI : Below w.heap.size w.drew u) (hr : r = .ok (.value v) u) (hF : madeF w0 X vs i5 i16 i17 i v u) : yieldsY P (fun v u' => Below w.heap.size w.drew u' ∧ madeF w0 X vs i5 i16 i17 i v u' ∧ ∀ j x, come j → madeF w0 X vs i5 i16 i17 j x u → madeF w0 X vs i5 i16 i17 j x u') r := by
  rw [hr]; exact ⟨hI, hF, fun _ _ _ h => h⟩
theorem made_grow (hI : Below w.heap.size w.drew u) (hr : r = .ok (.value v) u') (hb : Below u.heap.size u u') (hF : madeF w0 X vs i5 i16 i17 i v u') : yieldsY P (fun v u' => Below w.heap.size w.drew u' ∧ madeF w0 X vs i5 i16 i17 i v u' ∧ ∀ j x, come j → madeF w0 X vs i5 i16 i17 j x u → madeF w0 X vs i5 i16 i17 j x u') r := by
  rw [hr]; exact ⟨hI.trans (hb.mono hI.size), hF, fun _ _ _ h => madeF_on h hb⟩
theorem made_call {f : FuncId} {args : Array Value} (hI : Below w.heap.size w.drew u) (hr : r = .ok (.enter f args) u) (h : Calls P f args u fun e u' => e = .returned v ∧ Below u.heap.size u u') (hF : ∀ u', madeF w0 X vs i5 i16 i17 i v u') : yieldsY P (fun v u' => Below w.heap.size w.drew u' ∧ madeF w0 X vs i5 i16 i17 i v u' ∧ ∀ j x, come j → madeF w0 X vs i5 i16 i17 j x u → madeF w0 X vs i5 i16 i17 j x u') r := by
  rw [hr]
  exact h.mono fun e u' ⟨he, hb⟩ => ⟨v, he, hI.trans (hb.mono hI.size), hF u', fun _ _ _ h => madeF_on h hb⟩
theorem made_store {g : Nat} {z x : Hd} (hI : Below w.heap.size w.drew u) (hr : r = .ok .skip (setHd u g x)) (hN : NewHd u g z) (hg : w.heap.size ≤ g) (hF : ∀ u', madeF w0 X vs i5 i16 i17 i undef u') : yieldsY P (fun v u' => Below w.heap.size w.drew u' ∧ madeF w0 X vs i5 i16 i17 i v u' ∧ ∀ j x, come j → madeF w0 X vs i5 i16 i17 j x u → madeF w0 X vs i5 i16 i17 j x u') r := by
  rw [hr]; exact ⟨setHd_below hI g x hg, hF _, fun _ _ _ h => madeF_set hN h⟩
end
end Go.Proofs.Ytfppjpcolohmfaa
