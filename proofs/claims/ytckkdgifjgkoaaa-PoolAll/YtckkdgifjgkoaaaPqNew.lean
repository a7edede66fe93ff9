/- New of package pool. -/
import Derived.Test.YtckkdgifjgkoaaaGPq
import Derived.Test.YtckkdgifjgkoaaaGSr
import Derived.Test.YtckkdgifjgkoaaaIpClone
namespace Go.Proofs.Ytckkdgifjgkoaaa
open Go.ChangeShapes Go.WideShapes Go.ChangeAt Go.RowKit Go.Maps An Sp
theorem q_made {c d room : Nat} {w3 : World} {bk : Bk} {v : Value} (h : AnAt hdA d w3 bk v (An.start room 1)) (hc : c ≤ d) (hc3 : c ≤ w3.heap.size) (key : ByteArray) :
    QPl c (((w3.alloc (.map #[] 0)).alloc (.map #[] 0)).alloc (.cells #[.string key, .pointer (some ⟨bk.p, 0, none⟩), .map (some w3.heap.size), .map (some (w3.heap.size + 1))] 73)) key room ⟨w3.heap.size + 1 + 1, bk, w3.heap.size, w3.heap.size + 1⟩ v ⟨An.start room 1, [], fun _ => 0⟩ ∧
      Below w3.heap.size w3 (((w3.alloc (.map #[] 0)).alloc (.map #[] 0)).alloc (.cells #[.string key, .pointer (some ⟨bk.p, 0, none⟩), .map (some w3.heap.size), .map (some (w3.heap.size + 1))] 73)) := by
  have b1 := alloc_on w3 (.map #[] 0)
  have b2 := alloc_on (w3.alloc (.map #[] 0)) (.map #[] 0)
  have b3 := alloc_on ((w3.alloc (.map #[] 0)).alloc (.map #[] 0)) (.cells #[.string key, .pointer (some ⟨bk.p, 0, none⟩), .map (some w3.heap.size), .map (some (w3.heap.size + 1))] 73)
  have s1 : (w3.alloc (.map #[] 0)).heap.size = w3.heap.size + 1 := by simp
  have s2 : ((w3.alloc (.map #[] 0)).alloc (.map #[] 0)).heap.size = w3.heap.size + 1 + 1 := by simp
  have hB := Below.then (Below.then b1 b2) b3
  have m1 : OwnM (w3.alloc (.map #[] 0)) w3.heap.size [] := ⟨.map [], World.ownsMap_made w3 Try.prog 3 Rm, mapM_nil⟩
  have m2 : OwnO ((w3.alloc (.map #[] 0)).alloc (.map #[] 0)) (w3.heap.size + 1) room (fun _ => 0) 0 := by
    have := World.ownsMap_made (H := Unit) (w3.alloc (.map #[] 0)) Try.prog 3 (plainElem Try.prog 3)
    rw [s1] at this
    exact ⟨.map [], this, mapO_nil room⟩
  have hr := row_new ((w3.alloc (.map #[] 0)).alloc (.map #[] 0)) (hdQ key ⟨w3.heap.size + 1 + 1, bk, w3.heap.size, w3.heap.size + 1⟩) 73
  rw [s2] at hr
  refine ⟨⟨hr, an_weaken (h.on hB) hc, (m1.of_block (b2.block _ (by omega))).of_block (b3.block _ (by omega)), m2.of_block (b3.block _ (by omega)), by show c ≤ w3.heap.size + 1 + 1; omega, hc3, by show c ≤ w3.heap.size + 1; omega, by show w3.heap.size + 1 + 1 ≠ w3.heap.size; omega, by show w3.heap.size + 1 + 1 ≠ w3.heap.size + 1; omega, by show w3.heap.size ≠ w3.heap.size + 1; omega, fun hf => ?_, fun hf => ?_, fun hf => ?_⟩, hB⟩
  · have := (h.lt _ hf).2
    revert this
    show ¬ w3.heap.size + 1 + 1 < w3.heap.size
    omega
  · have := (h.lt _ hf).2
    revert this
    show ¬ w3.heap.size < w3.heap.size
    omega
  · have := (h.lt _ hf).2
    revert this
    show ¬ w3.heap.size + 1 < w3.heap.size
    omega
section
set_option maxRecDepth 100000 in
set_option maxHeartbeats 1000000 in
theorem qmake_key (room : Int) (key : ByteArray) (hk : key.size ≠ 16) (w : World) :
    Calls Try.prog 9 #[.int .i64 room, .string key] w fun e w' => e = .returned (.tuple #[.pointer none, .int .i64 1]) ∧ Below w.heap.size w w' := by
  have HC := hide (hash_no key ⟨#[]⟩ w hk)
  go_enter Try.func9, Try.ntmps9
  go_wp2_with fail
  refine (unhide HC).mono ?_
  rintro e w1 ⟨rfl, hw⟩
  obtain rfl := hw.symm
  clear hw
  go_wp2_with fail
  go_ret2
  exact ⟨rfl, Below.refl _ _⟩
set_option maxRecDepth 100000 in
set_option maxHeartbeats 1000000 in
theorem qmake_room (room : Int) (key : ByteArray) (hk : key.size = 16) (hr : room < 1 ∨ 65536 < room) (w : World) :
    Calls Try.prog 9 #[.int .i64 room, .string key] w fun e w' => e = .returned (.tuple #[.pointer none, .int .i64 1]) ∧ Below w.heap.size w w' := by
  have HC := hide (hash_yes key ⟨#[]⟩ w hk (by decide))
  have HN := hide (fun u => new_bad room 1 (by omega) u)
  clear hr
  go_enter Try.func9, Try.ntmps9
  go_wp2_with fail
  refine (unhide HC).mono ?_
  rintro e w1 ⟨rfl, hb⟩
  have HB := hide hb
  clear hb
  go_wp2_with fail
  refine (unhide HN _).mono ?_
  rintro e w2 ⟨rfl, hw⟩
  obtain rfl := hw.symm
  clear hw
  go_wp2_with fail
  go_ret2
  exact ⟨rfl, unhide HB⟩
set_option maxRecDepth 100000 in
set_option maxHeartbeats 2000000 in
theorem qmake_ok (room : Nat) (h1 : 1 ≤ room) (hr : room ≤ 65536) (key : ByteArray) (hk : key.size = 16) (w : World) :
    Calls Try.prog 9 #[.int .i64 (room : Int), .string key] w fun e w' => ∃ (b : QBk) (v : Value), e = .returned (.tuple #[.pointer (some ⟨b.p, 0, none⟩), .int .i64 0]) ∧ QPl w.heap.size w' key room b v ⟨An.start room 1, [], fun _ => 0⟩ ∧ Below w.heap.size w w' := by
  have HC := hide (hash_yes key ⟨#[]⟩ w hk (by decide))
  have HN := hide (fun u => new_made room 1 (Nat.le_refl _) h1 hr u)
  have hks : key.size ≤ 281474976710656 := by omega
  have HCl := hide (fun u => clone_any key u hks)
  have hmm := @run_makeMap Try.prog
  clear hr h1 hk hks
  go_enter Try.func9, Try.ntmps9
  go_wp2_with fail
  refine (unhide HC).mono ?_
  rintro e w1 ⟨rfl, hb1⟩
  have HB1 := hide hb1
  clear hb1
  go_wp2_with fail
  refine (unhide HN _).mono ?_
  rintro e w2 ⟨bk, v, rfl, hA2, hb2⟩
  have HB2 : Shut _ := ⟨Below.then (unhide HB1) hb2⟩
  have HA2 : Shut (AnAt hdA w1.heap.size w2 bk v (An.start room 1)) := ⟨hA2⟩
  have HS : Shut (w.heap.size ≤ w1.heap.size) := ⟨(unhide HB1).size⟩
  clear hb2 hA2 HB1 HN
  go_wp2_with fail
  refine (unhide HCl _).mono ?_
  rintro e w3 ⟨rfl, hb3⟩
  have HB3 : Shut _ := ⟨Below.then HB2.out hb3⟩
  have HA3 : Shut _ := ⟨HA2.out.on hb3⟩
  clear hb3 HB2 HA2 HCl
  go_wp2_with fail
  obtain ⟨q1, q2⟩ := q_made HA3.out HS.out (Nat.le_trans HB3.out.size (Nat.le_refl _)) key
  go_ret2
  exact ⟨⟨w3.heap.size + 1 + 1, bk, w3.heap.size, w3.heap.size + 1⟩, v, rfl, q1, Below.then HB3.out q2⟩
end
end Go.Proofs.Ytckkdgifjgkoaaa
