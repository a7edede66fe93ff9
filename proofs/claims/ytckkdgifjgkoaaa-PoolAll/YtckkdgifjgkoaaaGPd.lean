/- Drain of package pool. -/
import Derived.Test.YtckkdgifjgkoaaaGPq
namespace Go.Proofs.Ytckkdgifjgkoaaa
open Go.ChangeShapes Go.WideShapes Go.ChangeAt Go.RowKit Go.Maps An
section
variable {base : Nat} {w : World} {key : ByteArray} {room : Nat} {b : QBk} {v : Value} {a : An} {L : List Mem} {own : Nat → Nat} {n : Nat}
set_option maxRecDepth 100000 in
set_option maxHeartbeats 1000000 in
theorem qdrain_no (h : QAt base w key room b v a L own n) (id : Int) (hi : -9223372036854775808 ≤ id ∧ id ≤ 9223372036854775807) (ht : Po.there L id = false) :
    Calls Try.prog 18 #[.pointer (some ⟨b.p, 0, none⟩), .int .i64 id] w fun e w' => e = .returned (.int .i64 19) ∧ Below w.heap.size w w' := by
  obtain ⟨_, _, c2, _⟩ := h.cells
  have hl := h.look_no hi ht
  clear h ht
  go_enter Try.func18, Try.ntmps18
  go_wp2_with fail
  refine bodyPost_ret (v := .int .i64 19) (by simp [results, Try.results18, go_sem]) rfl ⟨rfl, ?_⟩
  (repeat first | exact Below.refl _ _ | refine Below.drew ?_ | refine Below.alloc ?_ (by simp <;> omega) _ | refine Below.setCell ?_ (by simp <;> omega) _)
set_option maxRecDepth 100000 in
set_option maxHeartbeats 1000000 in
theorem qdrain_state (h : QAt base w key room b v a L own n) (hs : Po.Rises L) (hI : ∀ m ∈ L, 1 ≤ m.id ∧ m.id ≤ 65535) (m : Mem) (hm : m ∈ L) (hst : m.st ≠ 1) :
    Calls Try.prog 18 #[.pointer (some ⟨b.p, 0, none⟩), .int .i64 (m.id : Int)] w fun e w' => e = .returned (.int .i64 15) ∧ Below w.heap.size w w' := by
  obtain ⟨_, _, c2, _⟩ := h.cells
  have hl := h.look_yes hs hI hm
  have h1 : ((m.st : Int) != 1) = true := by simp; omega
  clear h
  obtain ⟨x0, x1, x2, x3, x4⟩ := m
  clear hm
  go_enter Try.func18, Try.ntmps18
  go_wp2_with fail
  refine bodyPost_ret (v := .int .i64 15) (by simp [results, Try.results18, go_sem]) rfl ⟨rfl, ?_⟩
  (repeat first | exact Below.refl _ _ | refine Below.drew ?_ | refine Below.alloc ?_ (by simp <;> omega) _ | refine Below.setCell ?_ (by simp <;> omega) _)
set_option maxRecDepth 100000 in
set_option maxHeartbeats 4000000 in
theorem qdrain_ok (h : QAt base w key room b v a L own n) (hs : Po.Rises L) (hI : ∀ m ∈ L, 1 ≤ m.id ∧ m.id ≤ 65535) (hl : L.length ≤ 1000000) (hR : An.Reach room a) (hr : room ≤ 65536) (hn : 1 ≤ n) {i : Nat} (m : Mem) (hm : L[i]? = some m) (hst : m.st = 1) (hk : m.bk < room) (ho : own m.bk ≠ 0) :
    Calls Try.prog 18 #[.pointer (some ⟨b.p, 0, none⟩), .int .i64 (m.id : Int)] w fun e w' => e = .returned (.int .i64 0) ∧ ∃ v', QAt base w' key room b v' (giveA a n m.bk) (L.set i (Po.off m)) (upd own m.bk 0) (n - 1) ∧ QWent w w' b v v' := by
  obtain ⟨_, _, c2, _⟩ := h.cells
  have hlk := h.look_yes hs hI (List.mem_of_getElem? hm)
  have hl0 := alloc_on w (.cells #[.int .i64 (m.id : Int), .int .u32 (m.addr : Int), .int .i64 (m.port : Int), .int .i64 (m.st : Int), .int .i64 (m.bk : Int)] 85)
  have q1 := h.on hl0
  have hx : Row (w.alloc (.cells #[.int .i64 (m.id : Int), .int .u32 (m.addr : Int), .int .i64 (m.port : Int), .int .i64 (m.st : Int), .int .i64 (m.bk : Int)] 85)) w.heap.size m.cells := row_new w m.cells 85
  have hoff : w.heap.size ∉ qfeet b v := fun hf => by
    have := (h.lt _ hf).2
    omega
  have HG : Shut _ := ⟨QWent.of hl0 b v⟩
  have HC := hide (qgive_any q1 hR hr m.bk hk ho hn)
  have h1 : ((m.st : Int) != 1) = false := by rw [hst]; rfl
  have HS : Shut _ := ⟨hs⟩
  have HI : Shut _ := ⟨hI⟩
  have HL : Shut _ := ⟨hl⟩
  have HM : Shut _ := ⟨hm⟩
  have HX : Shut _ := ⟨hx⟩
  have HO : Shut _ := ⟨hoff⟩
  clear h q1 hR hr hs hI hl hm hx hoff hst hk ho hl0 hn
  go_enter Try.func18, Try.ntmps18
  go_wp2_with fail
  refine (unhide HC).mono ?_
  rintro e w2 ⟨rfl, v', q2, g2⟩
  clear HC c2 hlk
  have hx2 := HX.out.but g2.but HO.out
  obtain ⟨_, _, c2, _⟩ := q2.cells
  obtain ⟨w3, r3, q3, g3⟩ := q2.drew.set HS.out HL.out HI.out HM.out (x := Po.off m) rfl
  have d0 := hx2.cell 0 _ rfl
  have d1 := hx2.cell 1 _ rfl
  have d2 := hx2.cell 2 _ rfl
  have HQ3 : Shut _ := ⟨q3⟩
  have HG3 : Shut (QWent w w3 b v v') := ⟨HG.out.trans ((g2.drewN 1).trans g3)⟩
  clear q2 g2 hx2 q3 g3
  obtain ⟨x0, x1, x2, x3, x4⟩ := m
  have r3' : (Instr.mapUpdate 71 (.map (some b.m)) (.int .i64 (x0 : Int)) (.agg #[.int .i64 (x0 : Int), .int .u32 (x1 : Int), .int .i64 (x2 : Int), .int .i64 2, .int .i64 0])).run Try.prog w2.drew = .ok () w3 := r3
  clear r3
  go_wp2_with fail
  go_region
  go_wp2_with fail
  go_ret
  exact ⟨rfl, v', HQ3.out, HG3.out⟩
end
end Go.Proofs.Ytckkdgifjgkoaaa

/- Remove of package pool. -/
namespace Go.Proofs.Ytckkdgifjgkoaaa
open Go.ChangeShapes Go.WideShapes Go.ChangeAt Go.RowKit Go.Maps An
section
variable {base : Nat} {w : World} {key : ByteArray} {room : Nat} {b : QBk} {v : Value} {a : An} {L : List Mem} {own : Nat → Nat} {n : Nat}
set_option maxRecDepth 100000 in
set_option maxHeartbeats 1000000 in
theorem qgone_no (h : QAt base w key room b v a L own n) (id : Int) (hi : -9223372036854775808 ≤ id ∧ id ≤ 9223372036854775807) (ht : Po.there L id = false) :
    Calls Try.prog 19 #[.pointer (some ⟨b.p, 0, none⟩), .int .i64 id] w fun e w' => e = .returned (.int .i64 19) ∧ Below w.heap.size w w' := by
  obtain ⟨_, _, c2, _⟩ := h.cells
  have hl := h.look_no hi ht
  clear h ht
  go_enter Try.func19, Try.ntmps19
  go_wp2_with fail
  refine bodyPost_ret (v := .int .i64 19) (by simp [results, Try.results19, go_sem]) rfl ⟨rfl, ?_⟩
  (repeat first | exact Below.refl _ _ | refine Below.drew ?_ | refine Below.alloc ?_ (by simp <;> omega) _ | refine Below.setCell ?_ (by simp <;> omega) _)
set_option maxRecDepth 100000 in
set_option maxHeartbeats 4000000 in
theorem qgone_ok (h : QAt base w key room b v a L own n) (hs : Po.Rises L) (hI : ∀ m ∈ L, 1 ≤ m.id ∧ m.id ≤ 65535) (hR : An.Reach room a) (hr : room ≤ 65536) (hn : 1 ≤ n) {i : Nat} (m : Mem) (hm : L[i]? = some m) (hst : m.st = 1) (hk : m.bk < room) (ho : own m.bk ≠ 0) :
    Calls Try.prog 19 #[.pointer (some ⟨b.p, 0, none⟩), .int .i64 (m.id : Int)] w fun e w' => e = .returned (.int .i64 0) ∧ ∃ v', QAt base w' key room b v' (giveA a n m.bk) (L.eraseIdx i) (upd own m.bk 0) (n - 1) ∧ QWent w w' b v v' := by
  obtain ⟨_, _, c2, _⟩ := h.cells
  have hlk := h.look_yes hs hI (List.mem_of_getElem? hm)
  have hl0 := alloc_on w (.cells #[.int .i64 (m.id : Int), .int .u32 (m.addr : Int), .int .i64 (m.port : Int), .int .i64 (m.st : Int), .int .i64 (m.bk : Int)] 85)
  have q1 := h.on hl0
  have HG : Shut _ := ⟨QWent.of hl0 b v⟩
  have HC := hide (qgive_any q1 hR hr m.bk hk ho hn)
  have h1 : ((m.st : Int) == 1) = true := by rw [hst]; rfl
  have HS : Shut _ := ⟨hs⟩
  have HI : Shut _ := ⟨hI⟩
  have HM : Shut _ := ⟨hm⟩
  clear h q1 hR hr hs hI hm hst hk ho hl0 hn
  go_enter Try.func19, Try.ntmps19
  go_wp2_with fail
  refine (unhide HC).mono ?_
  rintro e w2 ⟨rfl, v', q2, g2⟩
  clear HC c2 hlk
  obtain ⟨_, _, c2, _⟩ := q2.cells
  obtain ⟨w3, r3, q3, g3⟩ := q2.erase HS.out HI.out HM.out 0
  have HQ3 : Shut _ := ⟨q3⟩
  have HG3 : Shut (QWent w w3 b v v') := ⟨HG.out.trans (g2.trans g3)⟩
  clear q2 g2 q3 g3
  go_wp2_with fail
  go_ret
  exact ⟨rfl, v', HQ3.out, HG3.out⟩
set_option maxRecDepth 100000 in
set_option maxHeartbeats 4000000 in
theorem qgone_idle (h : QAt base w key room b v a L own n) (hs : Po.Rises L) (hI : ∀ m ∈ L, 1 ≤ m.id ∧ m.id ≤ 65535) {i : Nat} (m : Mem) (hm : L[i]? = some m) (hst : m.st ≠ 1) :
    Calls Try.prog 19 #[.pointer (some ⟨b.p, 0, none⟩), .int .i64 (m.id : Int)] w fun e w' => e = .returned (.int .i64 0) ∧ QAt base w' key room b v a (L.eraseIdx i) own n ∧ QWent w w' b v v := by
  obtain ⟨_, _, c2, _⟩ := h.cells
  have hlk := h.look_yes hs hI (List.mem_of_getElem? hm)
  have hl0 := alloc_on w (.cells #[.int .i64 (m.id : Int), .int .u32 (m.addr : Int), .int .i64 (m.port : Int), .int .i64 (m.st : Int), .int .i64 (m.bk : Int)] 85)
  have q2 := h.on hl0
  have h1 : ((m.st : Int) == 1) = false := by simp; omega
  obtain ⟨w3, r3, q3, g3⟩ := q2.erase hs hI hm 0
  obtain ⟨_, _, c3, _⟩ := q2.cells
  have HQ3 : Shut _ := ⟨q3⟩
  have HG3 : Shut (QWent w w3 b v v) := ⟨(QWent.of hl0 b v).trans g3⟩
  clear h q2 hs hI hm hst hl0 q3 g3
  go_enter Try.func19, Try.ntmps19
  go_wp2_with fail
  go_ret
  exact ⟨rfl, HQ3.out, HG3.out⟩
end
end Go.Proofs.Ytckkdgifjgkoaaa
