/- Active, Get of package pool. -/
import Derived.Test.YtckkdgifjgkoaaaPqMem
import Derived.Test.YtckkdgifjgkoaaaPoKey
import Derived.Test.YtckkdgifjgkoaaaPqLoop
namespace Go.Proofs.Ytckkdgifjgkoaaa
open Go.ChangeShapes Go.WideShapes Go.ChangeAt Go.RowKit Go.Maps An
section
variable {base : Nat} {w : World} {key : ByteArray} {room : Nat} {b : QBk} {v : Value} {a : An} {L : List Mem} {own : Nat → Nat} {n : Nat}
set_option maxHeartbeats 400000 in
theorem qactive_any (h : QAt base w key room b v a L own n) :
    Calls Try.prog 12 #[.pointer (some ⟨b.p, 0, none⟩)] w fun e w' => e = .returned (.int .i64 (n : Int)) ∧ w' = w := by
  obtain ⟨_, _, _, c3⟩ := h.cells
  have hl := h.len
  clear h
  go_enter Try.func12, Try.ntmps12
  go_wp2_with fail
  go_ret
  exact ⟨rfl, rfl⟩
set_option maxRecDepth 100000 in
set_option maxHeartbeats 1000000 in
theorem qget_no (h : QAt base w key room b v a L own n) (id : Int) (hi : -9223372036854775808 ≤ id ∧ id ≤ 9223372036854775807) (ht : Po.there L id = false) :
    Calls Try.prog 20 #[.pointer (some ⟨b.p, 0, none⟩), .int .i64 id] w fun e w' => e = .returned (.tuple #[noBack, .int .i64 0, .int .i64 19]) ∧ Below w.heap.size w w' := by
  have hl0 := alloc_on w (.cells #[.int .i64 0, .int .u32 0, .int .i64 0] 33)
  obtain ⟨_, _, c2, _⟩ := (h.on hl0).cells
  have hl := (h.on hl0).look_no hi ht
  have HB : Shut _ := ⟨hl0⟩
  clear h ht hl0
  go_enter Try.func20, Try.ntmps20
  go_wp2_with fail
  refine bodyPost_ret (v := .tuple #[noBack, .int .i64 0, .int .i64 19]) (by unfold noBack; simp [results, Try.results20, go_sem]) rfl ⟨rfl, ?_⟩
  (repeat first | exact HB.out | exact Below.refl _ _ | refine Below.drew ?_ | refine Below.alloc ?_ (by simp <;> omega) _ | refine Below.setCell ?_ (by simp <;> omega) _)
set_option maxRecDepth 100000 in
set_option maxHeartbeats 2000000 in
theorem qget_yes (h : QAt base w key room b v a L own n) (hs : Po.Rises L) (hI : ∀ m ∈ L, 1 ≤ m.id ∧ m.id ≤ 65535) (m : Mem) (hm : m ∈ L) :
    Calls Try.prog 20 #[.pointer (some ⟨b.p, 0, none⟩), .int .i64 (m.id : Int)] w fun e w' => e = .returned (.tuple #[m.back, .int .i64 (m.st : Int), .int .i64 0]) ∧ Below w.heap.size w w' := by
  have hl0 := alloc_on w (.cells #[.int .i64 0, .int .u32 0, .int .i64 0] 33)
  obtain ⟨_, _, c2, _⟩ := (h.on hl0).cells
  have hl := (h.on hl0).look_yes hs hI hm
  have HB : Shut _ := ⟨hl0⟩
  clear h hl0
  obtain ⟨x0, x1, x2, x3, x4⟩ := m
  clear hm
  go_enter Try.func20, Try.ntmps20
  go_wp2_with fail
  go_region
  go_wp2_with fail
  refine bodyPost_ret (v := .tuple #[Mem.back (Mem.mk x0 x1 x2 x3 x4), .int .i64 (x3 : Int), .int .i64 0]) (by unfold Mem.back; simp [results, Try.results20, go_sem]) rfl ⟨rfl, ?_⟩
  (repeat first | exact HB.out | exact Below.refl _ _ | refine Below.drew ?_ | refine Below.alloc ?_ (by simp <;> omega) _ | refine Below.setCell ?_ (by simp <;> omega) _)
end
end Go.Proofs.Ytckkdgifjgkoaaa

/- giveUp, take of package pool. -/
namespace Go.Proofs.Ytckkdgifjgkoaaa
open Go.ChangeShapes Go.WideShapes Go.ChangeAt Go.RowKit Go.Maps Go.Shelf An
section
variable {base : Nat} {w : World} {key : ByteArray} {room : Nat} {b : QBk} {v : Value} {a : An} {L : List Mem} {own : Nat → Nat} {n : Nat}
/-- The anchor, behind one of n owned buckets is nobody's. -/
def giveA (a : An) (n k : Nat) : An := if 1 < n then remS a (k : Int) else a
/-- The owners' map without one bucket. -/
theorem QAt.drop (h : QAt base w key room b v a L own n) (hr : room ≤ 65536) (k : Nat) (hk : k < room) (ho : own k ≠ 0) (ty : TypeId) :
    ∃ w', (Builtin.delete_ #[61, 3] ty #[.map (some b.o), .int .i64 (k : Int)]).run Try.prog w = .ok (.tuple #[]) w' ∧ QAt base w' key room b v a L (upd own k 0) (n - 1) ∧ QWent w w' b v v := by
  obtain ⟨D, h1, h2⟩ := h.own
  obtain ⟨w', r1, r2, r3⟩ := h1.drop lawM Try.underlying61 (key_mk (x := (k : Int)) (by omega)) ty
  exact ⟨w', r1, h.owners r3.grown ⟨_, own_tight r2, h2.del (h1.tidy lawM) k hk ho⟩⟩
set_option maxRecDepth 100000 in
set_option maxHeartbeats 2000000 in
theorem qgive_any (h : QAt base w key room b v a L own n) (hR : An.Reach room a) (hr : room ≤ 65536) (k : Nat) (hk : k < room) (ho : own k ≠ 0) (hn : 1 ≤ n) :
    Calls Try.prog 36 #[.pointer (some ⟨b.p, 0, none⟩), .int .i64 (k : Int)] w fun e w' => e = .returned (.tuple #[]) ∧ ∃ v', QAt base w' key room b v' (giveA a n k) L (upd own k 0) (n - 1) ∧ QWent w w' b v v' := by
  obtain ⟨_, _, _, c3⟩ := h.cells
  obtain ⟨W1, d1, q1, g1⟩ := h.drop hr k hk ho 0
  obtain ⟨M, rfl⟩ : ∃ M, n = M + 1 := ⟨n - 1, by omega⟩
  rw [Nat.add_sub_cancel] at q1 ⊢
  obtain ⟨_, c1, _, _⟩ := q1.cells
  have HQ : Shut _ := ⟨q1⟩
  have HG : Shut _ := ⟨g1⟩
  have HR : Shut _ := ⟨hR⟩
  have Hr : Shut _ := ⟨hr⟩
  have HA := hide (qactive_any q1)
  clear h q1 g1 hR hr hk ho hn
  go_enter Try.func36, Try.ntmps36
  go_wp2_with fail
  refine (unhide HA).mono ?_
  rintro e w2 ⟨rfl, hw⟩
  obtain rfl := hw.symm
  clear hw
  by_cases h0 : 0 < M
  · have h1 : decide ((0 : Int) < (M : Int)) = true := by simpa using h0
    have h2 : decide (0 < M) = true := by simpa using h0
    have HE : Shut (giveA a (M + 1) k = remS a (k : Int)) := ⟨if_pos (by omega)⟩
    clear h0
    go_wp2_with fail
    refine (remove_any HQ.out.an HR.out Hr.out _).mono ?_
    rintro e w3 ⟨rfl, v', hA, hW⟩
    obtain ⟨q2, g2⟩ := HQ.out.anchor hA hW
    clear hA hW
    have HQ2 : Shut _ := ⟨q2⟩
    have HG2 : Shut _ := ⟨HG.out.trans g2⟩
    clear q2 g2
    go_wp2_with fail
    go_end0
    exact ⟨rfl, v', by rw [HE.out]; exact HQ2.out, HG2.out⟩
  · have h1 : decide ((0 : Int) < (M : Int)) = false := by simp; omega
    have h2 : decide (0 < M) = false := by simp; omega
    have HE : Shut (giveA a (M + 1) k = a) := ⟨if_neg (by omega)⟩
    clear h0
    go_wp2_with fail
    go_end0
    exact ⟨rfl, v, by rw [HE.out]; exact HQ.out, HG.out⟩
end
end Go.Proofs.Ytckkdgifjgkoaaa

/- take of package pool. -/
namespace Go.Proofs.Ytckkdgifjgkoaaa
open Go.ChangeShapes Go.WideShapes Go.ChangeAt Go.RowKit Go.Maps Go.Shelf An
attribute [local go_sem] Oper.semAt_some
theorem cell_put {W : World} {l : Nat} {o : Obj} {ad : Addr} {v : Value} (h : W.cell? ad = some v) (hne : ad.block ≠ l) : (W.putObj l o).cell? ad = some v := by
  rw [World.cell?_of_block (w := W) (World.putObj_heap_other hne)]; exact h
section
variable {base : Nat} {w : World} {key : ByteArray} {room : Nat} {b : QBk} {v : Value} {a : An} {L : List Mem} {own : Nat → Nat} {n : Nat}
theorem AnAt.reads {b : Bk} {s : An} (hA : AnAt hdA base w b v s) : Reads w b.p b.a s.r b.ca s.A := ⟨hA.headA.2.1, hA.la⟩
set_option maxRecDepth 100000 in
set_option maxHeartbeats 2000000 in
theorem qtake_more (h : QAt base w key room b v a L own n) (hR : An.Reach room a) (hr : room ≤ 65536) (hn : 0 < n) :
    Calls Try.prog 33 #[.pointer (some ⟨b.p, 0, none⟩)] w fun e w' => e = .returned (.tuple #[.int .i64 (addB a), .int .i64 (addE a)]) ∧ ∃ v', QAt base w' key room b v' (addS a) L own n ∧ QWent w w' b v v' := by
  have hl0 := alloc_on w (.cells #[.int .i64 0] 3)
  have q1 := h.on hl0
  obtain ⟨_, c1, _, _⟩ := q1.cells
  have hx : Row (w.alloc (.cells #[.int .i64 0] 3)) w.heap.size [.int .i64 0] := row_new w [.int .i64 0] 3
  have hoff : w.heap.size ∉ qfeet b v := fun hf => by
    have := (h.lt _ hf).2
    omega
  have HQ : Shut _ := ⟨q1⟩
  have HX : Shut _ := ⟨hx⟩
  have HO : Shut _ := ⟨hoff⟩
  have HG : Shut (QWent w (w.alloc (.cells #[.int .i64 0] 3)) b v v) := ⟨QWent.of hl0 b v⟩
  have HR : Shut _ := ⟨hR⟩
  have Hr : Shut _ := ⟨hr⟩
  have HA := hide (qactive_any q1)
  have h1 : decide ((0 : Int) < (n : Int)) = true := by simpa using hn
  have h2 : decide (0 < n) = true := by simpa using hn
  clear h q1 hR hr hn hl0 hx hoff
  go_enter Try.func33, Try.ntmps33
  go_wp2_with fail
  refine (unhide HA).mono ?_
  rintro e w2 ⟨rfl, hw⟩
  obtain rfl := hw.symm
  clear hw
  go_wp2_with fail
  refine (add_any HQ.out.an HR.out Hr.out).mono ?_
  rintro e w3 ⟨rfl, v', hA, hW⟩
  obtain ⟨q2, g2⟩ := HQ.out.anchor hA hW
  have hx3 : Row w3 w.heap.size [.int .i64 0] := HX.out.but g2.but HO.out
  have f3 := hx3.free 0
  have d3 := hx3.cell 0 _ rfl
  have hoff3 : w.heap.size ∉ qfeet b v' := fun hf => by
    rcases g2.new _ hf with h | h
    · exact HO.out h
    · simp at h; omega
  have HQ2 : Shut (QAt base w3 key room b v' (addS a) L own n) := ⟨q2⟩
  have HG2 : Shut _ := ⟨HG.out.trans g2⟩
  have HX3 : Shut _ := ⟨hx3.set 0 (.int .i64 (addB a))⟩
  have HO3 : Shut _ := ⟨hoff3⟩
  clear hA hW q2 g2 hx3 hoff3
  go_wp2_with fail
  have HX4 := HX3.out.cell 0 (.int .i64 (addB a)) rfl
  refine bodyPost_ret (v := .tuple #[.int .i64 (addB a), .int .i64 (addE a)]) (by simp [results, Try.results33, go_sem, HX4]) rfl ⟨rfl, v', HQ2.out.aside HO3.out 0 _, HG2.out.aside (Nat.le_refl _) 0 _⟩
set_option maxRecDepth 100000 in
set_option maxHeartbeats 4000000 in
theorem qtake_first (h : QAt base w key room b v a L own 0) (hr : a.r ≤ 65536) (k0 : Nat) (hk : k0 < a.r) (h0 : a.A k0 = 0) (hu : ∀ j, j < a.r → a.A j = 0 → j = k0) :
    Calls Try.prog 33 #[.pointer (some ⟨b.p, 0, none⟩)] w fun e w' => e = .returned (.tuple #[.int .i64 (k0 : Int), .int .i64 0]) ∧ Below w.heap.size w w' := by
  have hl0 := alloc_on w (.cells #[.int .i64 0] 3)
  have q1 := h.on hl0
  have c1 := q1.cells.2.1
  have hx : Row (w.alloc (.cells #[.int .i64 0] 3)) w.heap.size [.int .i64 0] := row_new w [.int .i64 0] 3
  have hrd0 := q1.an.reads
  have hA : Calls Try.prog 12 #[.pointer (some ⟨b.p, 0, none⟩)] (w.alloc (.cells #[.int .i64 0] 3)) fun e w' => e = .returned (.int .i64 0) ∧ w' = w.alloc (.cells #[.int .i64 0] 3) := qactive_any q1
  have hba : b.bk.a < w.heap.size := (h.lt _ (by simp [qfeet, feet, Bk.five])).2
  clear h q1
  obtain ⟨V, hV⟩ : ∃ V, w.alloc (.cells #[.int .i64 0] 3) = V := ⟨_, rfl⟩
  have hVs : V.heap.size = w.heap.size + 1 := by rw [← hV]; simp
  refine (callsIn_wide (n := 0)).1 ?_
  refine callsIn_of_wp_marks Try.func33 rfl trivial ?_ rfl
  simp only [Try.ntmps33, List.size_toArray, List.length_cons, List.length_nil, Nat.reduceAdd, Nat.reduceSub, Array.replicate_succ, Array.replicate_zero, List.push_toArray, List.append_toArray, List.nil_append, List.cons_append]
  refine wpIn_wide.2 ?_
  rw [hV] at hl0 c1 hx hrd0 hA
  go_wp2_with fail
  refine hA.mono ?_
  rintro e w2 ⟨rfl, hw⟩
  obtain rfl := hw.symm
  clear hw
  go_wp2_with fail
  refine (working_any _ _).mono ?_
  rintro e w3 ⟨rfl, hw⟩
  have hZ : w3.cell? ⟨V.heap.size, 0, none⟩ = some (.pointer (some ⟨b.bk.p, 0, none⟩)) := by rw [hw]; simp [go_sem]
  have hB3 : Below V.heap.size V w3 := by rw [hw]; exact alloc_on _ _
  have hs3 : w3.heap.size = V.heap.size + 1 := by rw [hw]; simp
  clear hw
  have hrd := hrd0.on hB3
  have hx3 := hx.on' hB3
  have hb3 : Below w.heap.size w w3 := hl0.trans (hB3.mono (by omega))
  clear c1 hV hl0 hB3 hx
  go_wp2_with fail
  refine wp_working (d := 4) (b := b.bk) (s := a) (B := w.heap.size + 1) rfl hr (hVs ▸ hZ) hrd (fun k => k ≠ w.heap.size) (fun k hk => by omega) (by omega)
    (fun k W => Row W w.heap.size [.int .i64 (if k0 < k then (k0 : Int) else 0)] ∧ Below w.heap.size w W) (fun _ _ _ => False)
    (fun k W W' h hb => ⟨h.1.on hb (by omega), h.2.trans (hb.mono (by omega))⟩) (fun _ _ _ _ h _ => h)
    ⟨hx3, hb3⟩ ?skip ?assign ?body ?done (fun _ _ _ h _ => h.elim)
  case skip =>
    rintro k W hk hz ⟨h1, h2⟩
    have hne : k ≠ k0 := fun e => hz (by rw [e]; exact h0)
    have e1 : (if k0 < k + 1 then (k0 : Int) else 0) = if k0 < k then (k0 : Int) else 0 := by
      by_cases h : k0 < k
      · rw [if_pos h, if_pos (by omega)]
      · rw [if_neg h, if_neg (by omega)]
    rw [e1]
    exact ⟨h1, h2⟩
  case assign =>
    intro l' k W K hK
    simp only [roundAct] at hK
    gi_wp2
    simpa using hK
  case body =>
    rintro l' k W hk hz ⟨h1, h2⟩
    obtain rfl := hu k hk hz
    have e1 : (if k < k + 1 then (k : Int) else 0) = (k : Int) := if_pos (by omega)
    have g1 := h1.free 0
    have c1 := h1.cell 0 _ rfl
    have q1 : Row (W.setCell ⟨w.heap.size, 0, none⟩ (.int .i64 (k : Int))) w.heap.size [.int .i64 (if k < k + 1 then (k : Int) else 0)] := by rw [e1]; exact h1.set 0 (.int .i64 (k : Int))
    have q2 : Below w.heap.size w (W.setCell ⟨w.heap.size, 0, none⟩ (.int .i64 (k : Int))) := h2.setCell (p := ⟨w.heap.size, 0, none⟩) (Nat.le_refl _) _
    have H : Shut _ := ⟨(⟨q1, q2⟩ : _ ∧ _)⟩
    clear q1 q2 h1 h2 e1
    simp only [roundAct]
    gi_wp2
    exact ⟨(Keeps.refl _ _).setCell (p := ⟨w.heap.size, 0, none⟩) (by simp) _, H.out⟩
  case done =>
    rintro W ⟨h1, h2⟩ hK
    rw [if_pos hk] at h1
    have c1 := h1.cell 0 _ rfl
    have g1 := h1.free 0
    have h3 := h1.set 0 (.int .i64 (k0 : Int))
    have hne : w.heap.size ≠ w3.heap.size := by omega
    have hK' : (W.setCell ⟨w.heap.size, 0, none⟩ (.int .i64 (k0 : Int))).heap[w3.heap.size]? = some (.deferred (some [])) := (Below.heap_setCell _ _ _ _ (fun e => hne e.symm)).trans hK
    have h4 : Below w.heap.size w (W.setCell ⟨w.heap.size, 0, none⟩ (.int .i64 (k0 : Int))) := h2.setCell (p := ⟨w.heap.size, 0, none⟩) (Nat.le_refl _) _
    have HK : Shut _ := ⟨hK'⟩
    have H3 : Shut _ := ⟨h3⟩
    have H4 : Shut _ := ⟨h4⟩
    clear hK hK' h1 h2 h3 h4
    go_wp2_with fail
    have hc : ∀ o, ((W.setCell ⟨w.heap.size, 0, none⟩ (.int .i64 (k0 : Int))).putObj w3.heap.size o).cell? ⟨w.heap.size, 0, none⟩ = some (.int .i64 (k0 : Int)) := fun o => cell_put (H3.out.cell 0 _ rfl) hne
    refine ⟨by simp, .inl ⟨_, _, rfl, run_takeDeferred HK.out, ?_⟩⟩
    refine ⟨.tuple #[.int .i64 (k0 : Int), .int .i64 0], ?_, rfl, below_put H4.out (by omega) _⟩
    simp [results, Try.results33, go_sem, hc]
end
end Go.Proofs.Ytckkdgifjgkoaaa

/- What a store into a map of the pool's leaves. -/
namespace Go.Proofs.Ytckkdgifjgkoaaa
open Go.ChangeShapes Go.WideShapes Go.ChangeAt Go.RowKit Go.Maps An
section
variable {base : Nat} {w : World} {key : ByteArray} {room : Nat} {b : QBk} {v : Value} {a : An} {L : List Mem} {own : Nat → Nat} {n : Nat}
/-- The pool, of what is reached. -/
abbrev QPl (base : Nat) (W : World) (key : ByteArray) (room : Nat) (b : QBk) (v : Value) (p : Pl) : Prop := QAt base W key room b v p.a p.L p.own (Po.active p.L)
theorem QAt.set (h : QAt base w key room b v a L own n) (hr : Po.Rises L) (hl : L.length ≤ 1000000) (hI : ∀ m ∈ L, 1 ≤ m.id ∧ m.id ≤ 65535) {i : Nat} {m x : Mem} (hm : L[i]? = some m) (hx : x.id = m.id) :
    ∃ w', (Instr.mapUpdate 71 (.map (some b.m)) (.int .i64 (m.id : Int)) x.val).run Try.prog w = .ok () w' ∧ QAt base w' key room b v a (L.set i x) own n ∧ QWent w w' b v v := by
  obtain ⟨D, h1, h2⟩ := h.mem
  have hid := hI m (List.mem_of_getElem? hm)
  have hs := h2.size
  obtain ⟨w', r1, r2, r3⟩ := h1.store lawM Try.underlying71 (by unfold maxLen; omega) (key_mk (x := (m.id : Int)) (by omega)) (Rm_mk x)
  exact ⟨w', r1, h.members r3.grown ⟨_, own_tight r2, h2.set (h1.tidy lawM) hr hm hx⟩⟩
theorem QAt.more (h : QAt base w key room b v a L own n) (hr : Po.Rises L) (hl : L.length ≤ 1000000) (x : Mem) (hi : x.id ≤ 65535) (hx : Po.there L x.id = false) :
    ∃ w', (Instr.mapUpdate 71 (.map (some b.m)) (.int .i64 (x.id : Int)) x.val).run Try.prog w = .ok () w' ∧ QAt base w' key room b v a (L.take (Po.place L x.id) ++ x :: L.drop (Po.place L x.id)) own n ∧ QWent w w' b v v := by
  obtain ⟨D, h1, h2⟩ := h.mem
  have hs := h2.size
  obtain ⟨w', r1, r2, r3⟩ := h1.store lawM Try.underlying71 (by unfold maxLen; omega) (key_mk (x := (x.id : Int)) (by omega)) (Rm_mk x)
  exact ⟨w', r1, h.members r3.grown ⟨_, own_tight r2, h2.put (h1.tidy lawM) hr x hx⟩⟩
theorem QAt.erase (h : QAt base w key room b v a L own n) (hr : Po.Rises L) (hI : ∀ m ∈ L, 1 ≤ m.id ∧ m.id ≤ 65535) {i : Nat} {m : Mem} (hm : L[i]? = some m) (ty : TypeId) :
    ∃ w', (Builtin.delete_ #[71, 3] ty #[.map (some b.m), .int .i64 (m.id : Int)]).run Try.prog w = .ok (.tuple #[]) w' ∧ QAt base w' key room b v a (L.eraseIdx i) own n ∧ QWent w w' b v v := by
  obtain ⟨D, h1, h2⟩ := h.mem
  have hid := hI m (List.mem_of_getElem? hm)
  obtain ⟨w', r1, r2, r3⟩ := h1.drop lawM Try.underlying71 (key_mk (x := (m.id : Int)) (by omega)) ty
  exact ⟨w', r1, h.members r3.grown ⟨_, own_tight r2, h2.erase (h1.tidy lawM) hr hm⟩⟩
theorem QAt.give (h : QAt base w key room b v a L own n) (hr : room ≤ 65536) (hn : n ≤ 1000000) (k id : Nat) (hk : k < room) (ho : own k = 0) (hid : id ≠ 0) (hi : id ≤ 65535) :
    ∃ w', (Instr.mapUpdate 61 (.map (some b.o)) (.int .i64 (k : Int)) (.int .i64 (id : Int))).run Try.prog w = .ok () w' ∧ QAt base w' key room b v a L (upd own k id) (n + 1) ∧ QWent w w' b v v := by
  obtain ⟨D, h1, h2⟩ := h.own
  have hs := h2.size
  obtain ⟨w', r1, r2, r3⟩ := h1.store lawM Try.underlying61 (by unfold maxLen; omega) (key_mk (x := (k : Int)) (by omega)) (plainElem_int (a := (id : Int)) Try.underlying3 (WalkArith.wf_i64 (by omega)))
  exact ⟨w', r1, h.owners r3.grown ⟨_, own_tight r2, h2.put (h1.tidy lawM) k id hk ho hid⟩⟩
end
end Go.Proofs.Ytckkdgifjgkoaaa
