/- The IDs of those who are there, sorted: slices.Sorted(maps.Keys(members)). -/
import Derived.Test.YtckkdgifjgkoaaaGPr
import Derived.Test.YtckkdgifjgkoaaaPqShelf
namespace Go.Proofs.Ytckkdgifjgkoaaa
open Go.ChangeShapes Go.WideShapes Go.ChangeAt Go.RowKit Go.Maps Go.Sort Go.Shelf An

theorem keys_any (mb : Option Nat) (W : World) : Calls Try.prog 32 #[.map mb] W fun e w' => e = .returned (.func (.func 52) #[] #[.pointer (some ⟨W.heap.size, 0, none⟩)]) ∧ w' = W.alloc (.cells #[.map mb] 71) :=
  (callsIn_wide (n := 5)).1 (AnyZI.keys_in Try.keysA Fence.wide 5 trivial rfl mb W)
theorem sortsA (m : Nat) : AnyZI.SortsIn Try.prog Try.sortedA_ren Fence.wide m :=
  ⟨fun blk off cap ss W hH hblk hsz => callsIn_wide.2 (AnyM.slices_Sort_int Try.sortA blk off cap ss W hH hblk hsz), fun p cap W => callsIn_wide.2 (AnyM.slices_Sort_int_none Try.sortA p cap W)⟩
theorem sorted_any {H : Type} (B b nn : Nat) (D0 : DataW H) (R : Value → Option (DataW H × List MemPlace)) (w : World) (hB : B < w.heap.size) (hm : w.cell? ⟨B, 0, none⟩ = some (.map (some b))) (hown : w.ownsMap Try.prog 3 R b nn D0) (hmax : Maps.size D0 ≤ maxLen) (hbytes : Maps.size D0 * 8 ≤ 140737488355328) :
    Calls Try.prog 31 #[.func (.func 52) #[] #[.pointer (some ⟨B, 0, none⟩)]] w fun e w' => ∃ (v : Value) (ss : List Int), e = .returned v ∧ ss.Perm (intKeys D0) ∧
      w'.ownsRow w.heap.size 3 1 v ss.length ((ss.mergeSort (fun x y => decide (x ≤ y))).map encZ) ∧ Below w.heap.size w w' := by
  have hseq : SeqGives Fence.wide 2 Try.prog 52 #[.pointer (some ⟨B, 0, none⟩)] encZ (fun ss => ss.Perm (intKeys D0)) (Maps.size D0) w :=
    AnyZI.keys_gives (ρ := Try.keysA_ren) { Try.keysA with } Fence.wide _ trivial rfl (by omega) B b nn D0 _ hB hm hown
  have cS := AnyZI.sorted_in Try.sortedA Fence.wide 5 trivial trivial trivial trivial rfl (by omega) (sortsA _) (enters_of Try.func51 (by kernel_rfl) rfl) 52 #[.pointer (some ⟨B, 0, none⟩)] trivial (enters_of Try.func52 (by kernel_rfl) rfl) _ _ hmax hbytes _ hseq
  change CallsIn _ _ Try.prog 31 _ _ _ at cS
  refine ((callsIn_wide (n := 5)).1 cS).mono ?_
  rintro e w' ⟨v, ss, rfl, hS, hrow, _, hb⟩
  exact ⟨v, ss, rfl, hS, hrow, hb⟩

/-- The IDs, as the list has them. -/
def idsOf (L : List Mem) : List Int := L.map fun m => (m.id : Int)
theorem mergeSort_ids {L : List Mem} (hs : Po.Rises L) {ss : List Int} (hp : ss.Perm (idsOf L)) : ss.mergeSort (fun x y => decide (x ≤ y)) = idsOf L := by
  have e := mergeSort_of_perm_i hp
  rw [show (fun x y : Int => decide (x ≤ y)) = leI from rfl, e]
  refine List.mergeSort_of_pairwise ?_
  unfold idsOf
  refine List.pairwise_map.2 (hs.imp fun {a b} h => ?_)
  show decide ((a.id : Int) ≤ b.id) = true
  simp
  omega
theorem keys_perm {D : DataW Unit} {L : List Mem} (h : MapM D L) (hs : Po.Rises L) {W : World} {b n : Nat} (hown : W.ownsMap Try.prog 3 Rm b n D) : (intKeys D).Perm (idsOf L) := by
  obtain ⟨es, rfl, hk⟩ := hown.keysOf
  have ht := hown.tidy lawM
  obtain ⟨es', he, hp⟩ := ht
  have he : es = es' := by injection he
  subst he
  have hk' : ∀ p ∈ es, ∃ x, p.1 = kI x := fun p hp' => by
    obtain ⟨v, hv⟩ := hk p hp'
    obtain ⟨x, _, hx, _⟩ := Maps.keyOf_i64 Try.underlying3 hv
    exact ⟨x, hx⟩
  refine (perm_intKeys hp hk' (ss := idsOf L) ?_ fun x => ?_).symm
  · unfold idsOf
    refine List.pairwise_map.2 (hs.imp fun {a b} h => ?_)
    omega
  · rw [h.has x, Po.there_iff hs]
    unfold idsOf
    rw [List.mem_map]
end Go.Proofs.Ytckkdgifjgkoaaa
