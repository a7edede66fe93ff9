/- Add of package pool. -/
import Derived.Test.YtckkdgifjgkoaaaGPq
namespace Go.Proofs.Ytckkdgifjgkoaaa
open Go.ChangeShapes Go.WideShapes Go.ChangeAt Go.RowKit Go.Maps An
section
variable {base : Nat} {w : World} {key : ByteArray} {room : Nat} {b : QBk} {v : Value} {a : An} {L : List Mem} {own : Nat → Nat} {n : Nat}
set_option maxRecDepth 100000 in
set_option maxHeartbeats 2000000 in
theorem qput_arg (p : Nat) (id addr port : Int) (hf : ¬ Fine id port) :
    Calls Try.prog 15 #[.pointer (some ⟨p, 0, none⟩), .agg #[.int .i64 id, .int .u32 addr, .int .i64 port]] w fun e w' => e = .returned (.int .i64 1) ∧ Below w.heap.size w w' := by
  have H : id < 1 ∨ (¬ id < 1 ∧ 65535 < id) ∨ (¬ id < 1 ∧ ¬ 65535 < id ∧ port < 0) ∨ (¬ id < 1 ∧ ¬ 65535 < id ∧ ¬ port < 0 ∧ 65535 < port) := by
    unfold Fine at hf
    omega
  clear hf
  rcases H with h | ⟨h1, h⟩ | ⟨h1, h2, h⟩ | ⟨h1, h2, h3, h⟩
  all_goals
    go_enter Try.func15, Try.ntmps15
    go_wp2_with fail
    refine bodyPost_ret (v := .int .i64 1) (by simp [results, Try.results15, go_sem]) rfl ⟨rfl, ?_⟩
    (repeat first | exact Below.refl _ _ | refine Below.drew ?_ | refine Below.alloc ?_ (by simp <;> omega) _ | refine Below.setCell ?_ (by simp <;> omega) _)
set_option maxRecDepth 100000 in
set_option maxHeartbeats 2000000 in
theorem qput_exists (h : QAt base w key room b v a L own n) (hs : Po.Rises L) (hI : ∀ m ∈ L, 1 ≤ m.id ∧ m.id ≤ 65535) (m : Mem) (hm : m ∈ L) (id addr port : Int) (hid : (m.id : Int) = id) (hf : Fine id port) :
    Calls Try.prog 15 #[.pointer (some ⟨b.p, 0, none⟩), .agg #[.int .i64 id, .int .u32 addr, .int .i64 port]] w fun e w' => e = .returned (.int .i64 20) ∧ Below w.heap.size w w' := by
  obtain ⟨h1, h2, h3, h4⟩ := hf
  have e1 : ¬ id < 1 := by omega
  have e2 : ¬ 65535 < id := by omega
  have e3 : ¬ port < 0 := by omega
  have e4 : ¬ 65535 < port := by omega
  have hl0 := alloc_on w (.cells #[.int .i64 id, .int .u32 addr, .int .i64 port] 33)
  have q0 := (h.on hl0).drew
  have hl1 := alloc_on (w.alloc (.cells #[.int .i64 id, .int .u32 addr, .int .i64 port] 33)) (.cells #[.int .i64 0, .int .u32 0, .int .i64 0, .int .i64 0, .int .i64 0] 85)
  have q1 := ((h.on hl0).on hl1).drew
  have c2 := q0.cells.2.2.1
  have c2' := q1.cells.2.2.1
  have hk := q0.look_yes hs hI hm
  have hk' := q1.look_yes hs hI hm
  rw [hid] at hk hk'
  clear hid
  clear h q0 q1 hl0 hl1 hs hI h1 h2 h3 h4
  obtain ⟨x0, x1, x2, x3, x4⟩ := m
  clear hm
  go_enter Try.func15, Try.ntmps15
  go_wp2_with fail
  go_region
  all_goals
    go_wp2_with fail
    refine bodyPost_ret (v := .int .i64 20) (by simp [results, Try.results15, go_sem]) rfl ⟨rfl, ?_⟩
    (repeat first | exact Below.refl _ _ | refine Below.drew ?_ | refine Below.alloc ?_ (by simp <;> omega) _ | refine Below.setCell ?_ (by simp <;> omega) _)
/-- The rows that stand when take is called: the backend, and what was looked up. -/
def addW (w : World) (id addr port : Int) : World := ((w.alloc (.cells #[.int .i64 id, .int .u32 addr, .int .i64 port] 33)).alloc (.cells #[.int .i64 0, .int .u32 0, .int .i64 0, .int .i64 0, .int .i64 0] 85)).drew
theorem addW_below (w : World) (id addr port : Int) : Below w.heap.size w (addW w id addr port) := below_drewN (Below.then (alloc_on w _) (alloc_on _ _)) 1
theorem addW_row (w : World) (id addr port : Int) : Row (addW w id addr port) w.heap.size [.int .i64 id, .int .u32 addr, .int .i64 port] :=
  ((row_new w [.int .i64 id, .int .u32 addr, .int .i64 port] 33).on' (alloc_on _ _)).of_block rfl
set_option maxRecDepth 100000 in
set_option maxHeartbeats 8000000 in
theorem qput_go (h : QAt base w key room b v a L own n) (hs : Po.Rises L) (hl : L.length ≤ 1000000) (hr : room ≤ 65536) (hn : n ≤ 1000000) (id addr port : Int) (hf : Fine id port) (ha : 0 ≤ addr) (ht : Po.there L id = false) (k : Nat) (hk : k < room) (ho : own k = 0) (a' : An)
    (HT : Calls Try.prog 33 #[.pointer (some ⟨b.p, 0, none⟩)] (addW w id addr port) fun e w' => e = .returned (.tuple #[.int .i64 (k : Int), .int .i64 0]) ∧ ∃ v', QAt base w' key room b v' a' L own n ∧ QWent (addW w id addr port) w' b v v') :
    Calls Try.prog 15 #[.pointer (some ⟨b.p, 0, none⟩), .agg #[.int .i64 id, .int .u32 addr, .int .i64 port]] w fun e w' => e = .returned (.int .i64 0) ∧
      ∃ v', QAt base w' key room b v' a' (L.take (Po.place L id) ++ Mem.mk id.toNat addr.toNat port.toNat 1 k :: L.drop (Po.place L id)) (upd own k id.toNat) (n + 1) ∧ QWent w w' b v v' := by
  obtain ⟨h1, h2, h3, h4⟩ := hf
  have e1 : ¬ id < 1 := by omega
  have e2 : ¬ 65535 < id := by omega
  have e3 : ¬ port < 0 := by omega
  have e4 : ¬ 65535 < port := by omega
  have hl0 := alloc_on w (.cells #[.int .i64 id, .int .u32 addr, .int .i64 port] 33)
  have q0 := (h.on hl0).drew
  have hl1 := alloc_on (w.alloc (.cells #[.int .i64 id, .int .u32 addr, .int .i64 port] 33)) (.cells #[.int .i64 0, .int .u32 0, .int .i64 0, .int .i64 0, .int .i64 0] 85)
  have q1 := ((h.on hl0).on hl1).drew
  have c2 := q0.cells.2.2.1
  have c2' := q1.cells.2.2.1
  have hk0 := q0.look_no (id := id) (by omega) ht
  have hk1 := q1.look_no (id := id) (by omega) ht
  have hoff : w.heap.size ∉ qfeet b v := fun hf => by
    have := (h.lt _ hf).2
    omega
  have HX : Shut (Row (addW w id addr port) w.heap.size [.int .i64 id, .int .u32 addr, .int .i64 port]) := ⟨addW_row w id addr port⟩
  have HB : Shut (Below w.heap.size w (addW w id addr port)) := ⟨addW_below w id addr port⟩
  have HO : Shut _ := ⟨hoff⟩
  have hidn : ((id.toNat : Nat) : Int) = id := by omega
  have HM : Shut (((id.toNat : Nat) : Int) = id ∧ ((addr.toNat : Nat) : Int) = addr ∧ ((port.toNat : Nat) : Int) = port ∧ id.toNat ≠ 0 ∧ id.toNat ≤ 65535 ∧ Po.there L id = false) := ⟨by omega, by omega, by omega, by omega, by omega, ht⟩
  have HP : Shut (Po.Rises L ∧ L.length ≤ 1000000 ∧ room ≤ 65536 ∧ n ≤ 1000000 ∧ k < room ∧ own k = 0) := ⟨hs, hl, hr, hn, hk, ho⟩
  have hT := hide HT
  unfold addW at HX HB hT
  clear HT h q0 q1 hl0 hl1 hs hl hr hn hk ho ht ha h1 h2 h3 h4 hoff hidn
  go_enter Try.func15, Try.ntmps15
  go_wp2_with fail
  go_region
  all_goals
    generalize ((w.alloc (.cells #[.int .i64 id, .int .u32 addr, .int .i64 port] 33)).alloc (.cells #[.int .i64 0, .int .u32 0, .int .i64 0, .int .i64 0, .int .i64 0] 85)).drew = V at *
    clear c2 c2' hk0 hk1
    go_wp2_with fail
    refine (unhide hT).mono ?_
    rintro e w2 ⟨rfl, v', q2, g2⟩
    have hx2 := HX.out.but g2.but HO.out
    obtain ⟨n1, n2, n3, n4, n5, n6⟩ := HM.out
    obtain ⟨p1, p2, p3, p4, p5, p6⟩ := HP.out
    obtain ⟨w3, r3, q3, g3⟩ := q2.drew.more p1 p2 (Mem.mk id.toNat addr.toNat port.toNat 1 k) n5 (by show Po.there L ((id.toNat : Nat) : Int) = false; rw [n1]; exact n6)
    have hoff2 : w.heap.size ∉ qfeet b v' := fun hf => by
      rcases g2.new _ hf with h | h
      · exact HO.out h
      · have := HX.out.lt
        omega
    have hx3 := (hx2.of_block (W' := w2.drew) rfl).but g3.but hoff2
    obtain ⟨w4, r4, q4, g4⟩ := q3.drew.give p3 p4 k id.toNat p5 p6 n4 n5
    have c2 := q2.cells.2.2.1
    have c3 := q3.cells.2.2.2
    have d0 := hx2.cell 0 _ rfl
    have d1 := hx2.cell 1 _ rfl
    have d2 := hx2.cell 2 _ rfl
    have d3 := hx3.cell 0 _ rfl
    have r3' : (Instr.mapUpdate 71 (.map (some b.m)) (.int .i64 id) (.agg #[.int .i64 id, .int .u32 addr, .int .i64 port, .int .i64 1, .int .i64 (k : Int)])).run Try.prog w2.drew = .ok () w3 := by
      have r5 := r3
      simp only [Mem.val, n1, n2, n3] at r5
      exact r5
    have r4' : (Instr.mapUpdate 61 (.map (some b.o)) (.int .i64 (k : Int)) (.int .i64 id)).run Try.prog w3.drew = .ok () w4 := by rw [n1] at r4; exact r4
    have q5 : QAt base w4 key room b v' a' (L.take (Po.place L id) ++ Mem.mk id.toNat addr.toNat port.toNat 1 k :: L.drop (Po.place L id)) (upd own k id.toNat) (n + 1) := by
      have q6 := q4
      simp only [n1] at q6
      exact q6
    have HQ : Shut _ := ⟨q5⟩
    have HG : Shut (QWent w w4 b v v') := ⟨(QWent.of HB.out b v).trans ((g2.drewN 1).trans ((g3.drewN 1).trans g4))⟩
    clear q2 q3 q4 q5 g2 g3 g4 hx2 hx3 hoff2 r3 r4 hT HX HO HM HP HB n1 n2 n3 n4 n5 n6 p1 p2 p3 p4 p5 p6
    go_wp2_with fail
    go_region
    clear c2 d0 d1 d2 r3'
    go_wp2_with fail
    go_region
    go_wp2_with fail
    go_ret
    exact ⟨rfl, v', HQ.out, HG.out⟩
set_option maxRecDepth 100000 in
set_option maxHeartbeats 8000000 in
theorem qput_full (h : QAt base w key room b v a L own n) (id addr port : Int) (hf : Fine id port) (ht : Po.there L id = false) (a' : An) (k : Int)
    (HT : Calls Try.prog 33 #[.pointer (some ⟨b.p, 0, none⟩)] (addW w id addr port) fun e w' => e = .returned (.tuple #[.int .i64 k, .int .i64 16]) ∧ ∃ v', QAt base w' key room b v' a' L own n ∧ QWent (addW w id addr port) w' b v v') :
    Calls Try.prog 15 #[.pointer (some ⟨b.p, 0, none⟩), .agg #[.int .i64 id, .int .u32 addr, .int .i64 port]] w fun e w' => e = .returned (.int .i64 16) ∧
      ∃ v', QAt base w' key room b v' a' L own n ∧ QWent w w' b v v' := by
  obtain ⟨h1, h2, h3, h4⟩ := hf
  have e1 : ¬ id < 1 := by omega
  have e2 : ¬ 65535 < id := by omega
  have e3 : ¬ port < 0 := by omega
  have e4 : ¬ 65535 < port := by omega
  have hl0 := alloc_on w (.cells #[.int .i64 id, .int .u32 addr, .int .i64 port] 33)
  have q0 := (h.on hl0).drew
  have hl1 := alloc_on (w.alloc (.cells #[.int .i64 id, .int .u32 addr, .int .i64 port] 33)) (.cells #[.int .i64 0, .int .u32 0, .int .i64 0, .int .i64 0, .int .i64 0] 85)
  have q1 := ((h.on hl0).on hl1).drew
  have c2 := q0.cells.2.2.1
  have c2' := q1.cells.2.2.1
  have hk0 := q0.look_no (id := id) (by omega) ht
  have hk1 := q1.look_no (id := id) (by omega) ht
  have HB : Shut (Below w.heap.size w (addW w id addr port)) := ⟨addW_below w id addr port⟩
  have hT := hide HT
  unfold addW at HB hT
  clear HT h q0 q1 hl0 hl1 ht h1 h2 h3 h4
  go_enter Try.func15, Try.ntmps15
  go_wp2_with fail
  go_region
  all_goals
    generalize ((w.alloc (.cells #[.int .i64 id, .int .u32 addr, .int .i64 port] 33)).alloc (.cells #[.int .i64 0, .int .u32 0, .int .i64 0, .int .i64 0, .int .i64 0] 85)).drew = V at *
    clear c2 c2' hk0 hk1
    go_wp2_with fail
    refine (unhide hT).mono ?_
    rintro e w2 ⟨rfl, v', q2, g2⟩
    have HQ : Shut _ := ⟨q2⟩
    have HG : Shut (QWent w w2 b v v') := ⟨(QWent.of HB.out b v).trans g2⟩
    clear q2 g2 hT HB
    go_wp2_with fail
    go_ret
    exact ⟨rfl, v', HQ.out, HG.out⟩
end
end Go.Proofs.Ytckkdgifjgkoaaa
