/- Add of the reference of chapter 13. -/
import Derived.Test.YtckkdgifjgkoaaaGPo
namespace Go.Proofs.Ytckkdgifjgkoaaa
open Go.ChangeShapes Go.WideShapes Go.ChangeAt Go.RowKit An

theorem cells_new (w : World) (l : List Value) (t : TypeId) : ∀ j u, l[j]? = some u → (w.alloc (.cells l.toArray t)).cell? ((⟨w.heap.size, 0, none⟩ : Addr).add j) = some u := by
  intro j u hj
  rw [show (⟨w.heap.size, 0, none⟩ : Addr).add j = ⟨w.heap.size, j, none⟩ by unfold Addr.add; split <;> simp_all]
  exact (row_new w l t).cell j u hj
theorem add_zero' (g j : Nat) : (⟨g, 0, none⟩ : Addr).add j = ⟨g, j, none⟩ := by unfold Addr.add; split <;> simp_all
theorem add_at' (g k j : Nat) : (⟨g, k, none⟩ : Addr).add j = ⟨g, k + j, none⟩ := by unfold Addr.add; split <;> simp_all
theorem own_room {w : World} {base : Nat} {e : TypeId} {size n g m cap : Nat} {v : Value} {xs : List Value} (h : w.ownsRow base e size v n xs) (hv : v = .slice (some ⟨g, 0, none⟩) m cap) : n ≤ cap := by
  rcases h.2 with ⟨h1, _⟩ | ⟨g', cap', cur, h1, _, _, h2, _⟩
  · rw [hv] at h1; cases h1
  · rw [hv] at h1; cases h1; exact h2
/-- A backend that may be added. -/
def Fine (id port : Int) : Prop := 1 ≤ id ∧ id ≤ 65535 ∧ 0 ≤ port ∧ port ≤ 65535
section
variable {base : Nat} {w : World} {key : ByteArray} {room : Nat} {b : RBk} {v vL : Value} {s : An} {L : List Mem} {own : Nat → Nat}
set_option maxRecDepth 100000 in
set_option maxHeartbeats 2000000 in
theorem rput_arg (id addr port : Int) (hf : ¬ Fine id port) :
    Calls Try.prog 25 #[.pointer (some ⟨b.p, 0, none⟩), .agg #[.int .i64 id, .int .u32 addr, .int .i64 port]] w fun e w' => e = .returned (.int .i64 1) ∧ Below w.heap.size w w' := by
  unfold Fine at hf
  have hb0 : Below w.heap.size w (w.alloc (.cells #[.int .i64 id, .int .u32 addr, .int .i64 port] 33)) := (Below.refl _ _).alloc (Nat.le_refl _) _
  have HB : Shut _ := ⟨hb0⟩
  clear hb0
  by_cases h1 : id < 1
  · clear hf
    go_enter Try.func25, Try.ntmps25
    go_wp2_with fail
    go_ret
    exact ⟨rfl, HB.out⟩
  · by_cases h2 : 65535 < id
    · clear hf
      go_enter Try.func25, Try.ntmps25
      go_wp2_with fail
      go_ret
      exact ⟨rfl, HB.out⟩
    · by_cases h3 : port < 0
      · clear hf
        go_enter Try.func25, Try.ntmps25
        go_wp2_with fail
        go_ret
        exact ⟨rfl, HB.out⟩
      · have h4 : 65535 < port := by omega
        clear hf
        go_enter Try.func25, Try.ntmps25
        go_wp2_with fail
        go_ret
        exact ⟨rfl, HB.out⟩
set_option maxRecDepth 100000 in
set_option maxHeartbeats 2000000 in
theorem rput_exists (h : RAt base w key room b v vL s L own) (hl : L.length ≤ 1000000) (id addr port : Int) (hf : Fine id port) (ht : Po.there L id = true) :
    Calls Try.prog 25 #[.pointer (some ⟨b.p, 0, none⟩), .agg #[.int .i64 id, .int .u32 addr, .int .i64 port]] w fun e w' => e = .returned (.int .i64 20) ∧ Below w.heap.size w w' := by
  obtain ⟨h1, h2, h3, h4⟩ := hf
  have q1 : ¬ id < 1 := by omega
  have q2 : ¬ 65535 < id := by omega
  have q3 : ¬ port < 0 := by omega
  have q4 : ¬ 65535 < port := by omega
  have hb0 : Below w.heap.size w (w.alloc (.cells #[.int .i64 id, .int .u32 addr, .int .i64 port] 33)) := (Below.refl _ _).alloc (Nat.le_refl _) _
  have hr0 := row_new w [.int .i64 id, .int .u32 addr, .int .i64 port] 33
  have hp := rplace_any (h.on hb0) hl id
  rw [ht] at hp
  obtain ⟨p, hpp⟩ : ∃ p, Po.place L id = p := ⟨_, rfl⟩
  have hpl := Po.place_le L id
  rw [hpp] at hp hpl 
  have HA0 : Shut _ := ⟨h.on hb0⟩
  have HL : Shut (L.length ≤ 1000000 ∧ p ≤ L.length) := ⟨hl, hpl⟩
  have HX0 : Shut (Below w.heap.size w (w.alloc (.cells #[.int .i64 id, .int .u32 addr, .int .i64 port] 33)) ∧ Row (w.alloc (.cells #[.int .i64 id, .int .u32 addr, .int .i64 port] 33)) w.heap.size [.int .i64 id, .int .u32 addr, .int .i64 port] ∧ base ≤ w.heap.size) := ⟨hb0, hr0, by have := h.lt b.p (mem_p b _ _); omega⟩
  have HF : Shut (∀ x ∈ rfeet b v vL, x < w.heap.size) := ⟨fun x hx => (h.lt x hx).2⟩
  clear h hl ht hpp hb0 hr0 h1 h2 h3 h4 hpl
  go_enter Try.func25, Try.ntmps25
  go_wp2_with fail
  refine hp.mono ?_
  rintro e w1 ⟨rfl, n, hw⟩
  obtain rfl := hw.symm
  have HA : Shut (RAt base ((w.alloc (.cells #[.int .i64 id, .int .u32 addr, .int .i64 port] 33)).drewN n) key room b v vL s L own) := ⟨HA0.out.drewN n⟩
  have HR : Shut (Row ((w.alloc (.cells #[.int .i64 id, .int .u32 addr, .int .i64 port] 33)).drewN n) w.heap.size [.int .i64 id, .int .u32 addr, .int .i64 port]) := ⟨HX0.out.2.1⟩
  have HW : Shut (PWent w ((w.alloc (.cells #[.int .i64 id, .int .u32 addr, .int .i64 port] 33)).drewN n) b v vL v vL) := ⟨PWent.of (below_drewN HX0.out.1 n) b v vL⟩
  have HB : Shut (Below w.heap.size w ((w.alloc (.cells #[.int .i64 id, .int .u32 addr, .int .i64 port] 33)).drewN n)) := ⟨below_drewN HX0.out.1 n⟩
  have HBS : Shut (base ≤ w.heap.size) := ⟨HX0.out.2.2⟩
  clear HA0 HX0 hp hw
  generalize (w.alloc (.cells #[.int .i64 id, .int .u32 addr, .int .i64 port] 33)).drewN n = V at *
  go_wp2_with fail
  go_ret
  exact ⟨rfl, HB.out⟩
set_option maxRecDepth 100000 in
set_option maxHeartbeats 2000000 in
theorem rput_full (h : RAt base w key room b v vL s L own) (hl : L.length ≤ 1000000) (id addr port : Int) (hf : Fine id port) (ht : Po.there L id = false) (hfull : Po.active L = room) :
    Calls Try.prog 25 #[.pointer (some ⟨b.p, 0, none⟩), .agg #[.int .i64 id, .int .u32 addr, .int .i64 port]] w fun e w' => e = .returned (.int .i64 16) ∧ Below w.heap.size w w' := by
  obtain ⟨h1, h2, h3, h4⟩ := hf
  have q1 : ¬ id < 1 := by omega
  have q2 : ¬ 65535 < id := by omega
  have q3 : ¬ port < 0 := by omega
  have q4 : ¬ 65535 < port := by omega
  have hb0 : Below w.heap.size w (w.alloc (.cells #[.int .i64 id, .int .u32 addr, .int .i64 port] 33)) := (Below.refl _ _).alloc (Nat.le_refl _) _
  have hr0 := row_new w [.int .i64 id, .int .u32 addr, .int .i64 port] 33
  have hp := rplace_any (h.on hb0) hl id
  rw [ht] at hp
  obtain ⟨p, hpp⟩ : ∃ p, Po.place L id = p := ⟨_, rfl⟩
  have hpl := Po.place_le L id
  rw [hpp] at hp hpl 
  have HA0 : Shut _ := ⟨h.on hb0⟩
  have HL : Shut (L.length ≤ 1000000 ∧ p ≤ L.length) := ⟨hl, hpl⟩
  have HX0 : Shut (Below w.heap.size w (w.alloc (.cells #[.int .i64 id, .int .u32 addr, .int .i64 port] 33)) ∧ Row (w.alloc (.cells #[.int .i64 id, .int .u32 addr, .int .i64 port] 33)) w.heap.size [.int .i64 id, .int .u32 addr, .int .i64 port] ∧ base ≤ w.heap.size) := ⟨hb0, hr0, by have := h.lt b.p (mem_p b _ _); omega⟩
  have HF : Shut (∀ x ∈ rfeet b v vL, x < w.heap.size) := ⟨fun x hx => (h.lt x hx).2⟩
  clear h hl ht hpp hb0 hr0 h1 h2 h3 h4 hpl
  go_enter Try.func25, Try.ntmps25
  go_wp2_with fail
  refine hp.mono ?_
  rintro e w1 ⟨rfl, n, hw⟩
  obtain rfl := hw.symm
  have HA : Shut (RAt base ((w.alloc (.cells #[.int .i64 id, .int .u32 addr, .int .i64 port] 33)).drewN n) key room b v vL s L own) := ⟨HA0.out.drewN n⟩
  have HR : Shut (Row ((w.alloc (.cells #[.int .i64 id, .int .u32 addr, .int .i64 port] 33)).drewN n) w.heap.size [.int .i64 id, .int .u32 addr, .int .i64 port]) := ⟨HX0.out.2.1⟩
  have HW : Shut (PWent w ((w.alloc (.cells #[.int .i64 id, .int .u32 addr, .int .i64 port] 33)).drewN n) b v vL v vL) := ⟨PWent.of (below_drewN HX0.out.1 n) b v vL⟩
  have HB : Shut (Below w.heap.size w ((w.alloc (.cells #[.int .i64 id, .int .u32 addr, .int .i64 port] 33)).drewN n)) := ⟨below_drewN HX0.out.1 n⟩
  have HBS : Shut (base ≤ w.heap.size) := ⟨HX0.out.2.2⟩
  clear HA0 HX0 hp hw
  generalize (w.alloc (.cells #[.int .i64 id, .int .u32 addr, .int .i64 port] 33)).drewN n = V at *
  go_wp2_with fail
  refine (ractive_any HA.out HL.out.1).mono ?_
  rintro e w2 ⟨rfl, hw2⟩
  obtain rfl := hw2.symm
  clear hw2
  obtain ⟨c0, c1, c2, c3, c4⟩ := HA.out.cells
  rw [hfull]
  go_wp2_with fail
  go_ret
  exact ⟨rfl, HB.out⟩
set_option maxRecDepth 100000 in
set_option maxHeartbeats 8000000 in
theorem rput_first (h : RAt base w key room b v vL s L own) (hRr : s.r = room) (hr : room ≤ 65536) (hl : L.length ≤ 1000000) (id addr port : Int) (hf : Fine id port) (hidn : (id.toNat : Int) = id ∧ (addr.toNat : Int) = addr ∧ (port.toNat : Int) = port) (ht : Po.there L id = false) (hact : Po.active L = 0) (hroom : 1 ≤ room) (k : Nat) (hk : k < room) (hk0 : s.A k = 0) (hmin : ∀ j, j < k → s.A j ≠ 0) :
    Calls Try.prog 25 #[.pointer (some ⟨b.p, 0, none⟩), .agg #[.int .i64 id, .int .u32 addr, .int .i64 port]] w fun e w' => e = .returned (.int .i64 0) ∧
      ∃ vL', RAt base w' key room b v vL' s (L.take (Po.place L id) ++ Mem.mk id.toNat addr.toNat port.toNat 1 k :: L.drop (Po.place L id)) (upd own k id.toNat) ∧ PWent w w' b v vL v vL' := by
  obtain ⟨h1, h2, h3, h4⟩ := hf
  have q1 : ¬ id < 1 := by omega
  have q2 : ¬ 65535 < id := by omega
  have q3 : ¬ port < 0 := by omega
  have q4 : ¬ 65535 < port := by omega
  have hb0 : Below w.heap.size w (w.alloc (.cells #[.int .i64 id, .int .u32 addr, .int .i64 port] 33)) := (Below.refl _ _).alloc (Nat.le_refl _) _
  have hr0 := row_new w [.int .i64 id, .int .u32 addr, .int .i64 port] 33
  have hp := rplace_any (h.on hb0) hl id
  rw [ht] at hp
  obtain ⟨p, hpp⟩ : ∃ p, Po.place L id = p := ⟨_, rfl⟩
  have hpl := Po.place_le L id
  rw [hpp] at hp hpl ⊢
  have HA0 : Shut _ := ⟨h.on hb0⟩
  have HL : Shut (L.length ≤ 1000000 ∧ p ≤ L.length) := ⟨hl, hpl⟩
  have HX0 : Shut (Below w.heap.size w (w.alloc (.cells #[.int .i64 id, .int .u32 addr, .int .i64 port] 33)) ∧ Row (w.alloc (.cells #[.int .i64 id, .int .u32 addr, .int .i64 port] 33)) w.heap.size [.int .i64 id, .int .u32 addr, .int .i64 port] ∧ base ≤ w.heap.size) := ⟨hb0, hr0, by have := h.lt b.p (mem_p b _ _); omega⟩
  have HF : Shut (∀ x ∈ rfeet b v vL, x < w.heap.size) := ⟨fun x hx => (h.lt x hx).2⟩
  have HN : Shut ((id.toNat : Int) = id ∧ (addr.toNat : Int) = addr ∧ (port.toNat : Int) = port) := ⟨hidn⟩
  have HK : Shut (k < room ∧ s.A k = 0 ∧ (∀ j, j < k → s.A j ≠ 0) ∧ room ≤ 65536 ∧ s.r = room) := ⟨hk, hk0, hmin, hr, hRr⟩
  have hne0 : ¬ room = 0 := by omega
  have hne1 : ¬ (0 : Int) = (room : Int) := by omega
  have hne2 : ¬ 0 = room := by omega
  have hne3 : ((0 : Int) == (room : Int)) = false := by rw [beq_eq_false_iff_ne]; omega
  have hne4 : ((0 : Nat) == room) = false := by rw [beq_eq_false_iff_ne]; omega
  clear hidn hk hk0 hmin hr hRr hroom
  clear h hl ht hpp hb0 hr0 h1 h2 h3 h4 hpl
  go_enter Try.func25, Try.ntmps25
  go_wp2_with fail
  refine hp.mono ?_
  rintro e w1 ⟨rfl, n, hw⟩
  obtain rfl := hw.symm
  have HA : Shut (RAt base ((w.alloc (.cells #[.int .i64 id, .int .u32 addr, .int .i64 port] 33)).drewN n) key room b v vL s L own) := ⟨HA0.out.drewN n⟩
  have HR : Shut (Row ((w.alloc (.cells #[.int .i64 id, .int .u32 addr, .int .i64 port] 33)).drewN n) w.heap.size [.int .i64 id, .int .u32 addr, .int .i64 port]) := ⟨HX0.out.2.1⟩
  have HW : Shut (PWent w ((w.alloc (.cells #[.int .i64 id, .int .u32 addr, .int .i64 port] 33)).drewN n) b v vL v vL) := ⟨PWent.of (below_drewN HX0.out.1 n) b v vL⟩
  have HB : Shut (Below w.heap.size w ((w.alloc (.cells #[.int .i64 id, .int .u32 addr, .int .i64 port] 33)).drewN n)) := ⟨below_drewN HX0.out.1 n⟩
  have HBS : Shut (base ≤ w.heap.size) := ⟨HX0.out.2.2⟩
  clear HA0 HX0 hp hw
  generalize (w.alloc (.cells #[.int .i64 id, .int .u32 addr, .int .i64 port] 33)).drewN n = V at *
  go_wp2_with fail
  refine (ractive_any HA.out HL.out.1).mono ?_
  rintro e w2 ⟨rfl, hw2⟩
  obtain rfl := hw2.symm
  clear hw2
  obtain ⟨c0, c1, c2, c3, c4⟩ := HA.out.cells
  have a0 := HA.out.an.headR.1
  rw [hact]
  go_wp2_with fail
  go_loop [8] (fun y => ∃ i : Nat, i ≤ k ∧ y = .int .i64 (i : Int)) (fun y => k - (intOf y).toNat)
  case atStart => exact ⟨0, Nat.zero_le _, rfl⟩
  case round =>
    obtain ⟨i, hi, rfl⟩ := hrel
    have hkr := HK.out
    have hir : i < s.r := by omega
    have hir1 : (i : Int) < s.r := by omega
    have ca := HA.out.an.cellA i hir
    by_cases hik : i < k
    · have hpos : (0 : Int) < s.A i := by have := hkr.2.2.1 i hik; omega
      have hib : (i : Int) ≤ 1000000 := by omega
      have HI : Shut (i < k) := ⟨hik⟩
      clear hkr hi hik hir
      go_wp2_with fail
      go_round
      case rel => exact ⟨i + 1, HI.out, by go_num⟩
      case measure => simp [intOf]; have := HI.out; omega
    · obtain rfl : i = k := by omega
      rw [hkr.2.1] at ca
      have hkroom : i < room := hkr.1
      have hkroom1 : (i : Int) < room := by omega
      have co := HA.out.own.cell i hkroom
      have fo := HA.out.own.free i
      have r0 := HR.out.cell 0 _ rfl
      have HA1 : Shut (RAt base (V.setCell ⟨b.o, i, none⟩ (.int .i64 id)).drew key room b v vL s L (upd own i id.toNat)) := ⟨by
        have h1 := (HA.out.setOwn i id.toNat hkroom).drew
        rw [HN.out.1] at h1
        exact h1⟩
      have HW1 : Shut (PWent w (V.setCell ⟨b.o, i, none⟩ (.int .i64 id)).drew b v vL v vL) := ⟨(HW.out.cell (mem_o b v vL) i (.int .i64 id)).drew⟩
      have HR1 : Shut (Row (V.setCell ⟨b.o, i, none⟩ (.int .i64 id)).drew w.heap.size [.int .i64 id, .int .u32 addr, .int .i64 port]) := ⟨HR.out.other (by have := HF.out b.o (mem_o b v vL); omega) _ _⟩
      clear hkr hi hik hir hkroom
      go_wp2_with fail
      go_region
      generalize (V.setCell ⟨b.o, i, none⟩ (.int .i64 id)).drew = V1 at *
      clear c0 c1 c2 c3 c4 a0 co fo r0 ca HA HW HR HB
      rcases (HA1.out.row.2) with ⟨hv, _⟩ | ⟨g, c, cur, hv, _⟩
      · obtain ⟨_, _, c2, _, _⟩ := HA1.out.cells
        have r0 := HR1.out.cell 0 _ rfl
        have r1 := HR1.out.cell 1 _ rfl
        have r2 := HR1.out.cell 2 _ rfl
        obtain ⟨i0, hii, hz0, hz1, hz2⟩ := info_parts info_mem
        have hlt : (mcells (L.take p)).length = p * 5 := by rw [mcells_length, List.length_take, Nat.min_eq_left HL.out.2]
        have hld : (mcells (L.drop p)).length = (L.length - p) * 5 := by rw [mcells_length, List.length_drop]
        have HE : Shut ((mcells (L.take p) ++ [.int .i64 id, .int .u32 addr, .int .i64 port, .int .i64 1, .int .i64 (i : Int)]) ++ mcells (L.drop p) = mcells (L.take p ++ Mem.mk id.toNat addr.toNat port.toNat 1 i :: L.drop p)) := ⟨by
          rw [show L.take p ++ Mem.mk id.toNat addr.toNat port.toNat 1 i :: L.drop p = (L.take p ++ [Mem.mk id.toNat addr.toNat port.toNat 1 i]) ++ L.drop p by simp, mcells_append, mcells_append, show mcells [Mem.mk id.toNat addr.toNat port.toNat 1 i] = [.int .i64 id, .int .u32 addr, .int .i64 port, .int .i64 1, .int .i64 (i : Int)] by show (Mem.cells _ ++ []) = _; unfold Mem.cells; rw [HN.out.1, HN.out.2.1, HN.out.2.2]; rfl]⟩
        have HLE : Shut ((L.take p ++ Mem.mk id.toNat addr.toNat port.toNat 1 i :: L.drop p).length = p + 1 + (L.length - p)) := ⟨by rw [List.length_append, List.length_take, List.length_cons, List.length_drop, Nat.min_eq_left HL.out.2]; omega⟩
        have hL0 : L.length = 0 := by
          rcases HA1.out.row.2 with ⟨_, h2⟩ | ⟨g, cap, cur, h1, _⟩
          · exact h2
          · rw [hv] at h1; cases h1
        have hp0 : p = 0 := by have := HL.out; omega
        have hX1 : mcells (L.take p) = [] := List.eq_nil_of_length_eq_zero (by rw [hlt]; omega)
        have hX2 : mcells (L.drop p) = [] := List.eq_nil_of_length_eq_zero (by rw [hld]; omega)
        have HE2 : Shut ([.int .i64 id, .int .u32 addr, .int .i64 port, .int .i64 1, .int .i64 (i : Int)] = mcells (L.take p ++ Mem.mk id.toNat addr.toNat port.toNat 1 i :: L.drop p)) := ⟨by rw [← HE.out, hX1, hX2]; simp⟩
        have HLE2 : Shut ((L.take p ++ Mem.mk id.toNat addr.toNat port.toNat 1 i :: L.drop p).length = 1) := ⟨by rw [HLE.out]; omega⟩
        rw [hv] at c2
        clear hlt hld hX1 hX2 HE HLE hL0
        subst hp0
        go_wp2_with (at_builtin; refine wpList_append_own _ rfl _ _ 43 rfl V1.heap.size 48 i0 (.agg #[.int .i64 0, .int .u32 0, .int .i64 0, .int .i64 0, .int .i64 0]) 5 40 Try.underlying43 hii hz0 hz1 hz2 rfl (by decide) _ _ _ rfl (World.ownsRow_nil _ _ _ _) ⟨V1.heap.size, 0, none⟩ 1 1 [.int .i64 id, .int .u32 addr, .int .i64 port, .int .i64 1, .int .i64 (i : Int)] rfl rfl ?k0c1 ?k0c2 ?k0c3 ?k0c4 ?k0c5 ?_)
        case k0c1 => exact cells_new V1 [.int .i64 id, .int .u32 addr, .int .i64 port, .int .i64 1, .int .i64 (i : Int)] 48
        case k0c2 => intro u hu; simp at hu; rcases hu with rfl | rfl | rfl | rfl | rfl <;> rfl
        case k0c3 => decide
        case k0c4 => decide
        try (case k0c5 => simp)
        intro v2 w2 hown2 hgrow2 _
        have hbV : Below V1.heap.size V1 (V1.alloc (.cells #[.int .i64 id, .int .u32 addr, .int .i64 port, .int .i64 1, .int .i64 (i : Int)] 48)) := (Below.refl _ _).alloc (Nat.le_refl _) _
        have hb2 : Below V1.heap.size V1 w2 := grown_below hbV hgrow2 (fun i e => by cases e)
        have hown3 : w2.ownsRow V1.heap.size 48 5 v2 (L.take 0 ++ Mem.mk id.toNat addr.toNat port.toNat 1 i :: L.drop 0).length (mcells (L.take 0 ++ Mem.mk id.toNat addr.toNat port.toNat 1 i :: L.drop 0)) := by rw [HLE2.out, ← HE2.out]; first | exact hown2 | simpa using hown2
        obtain ⟨g2, cap2, hv2⟩ := @own_succ _ _ _ _ _ 0 _ (by first | exact hown2 | simpa using hown2)
        rw [Nat.zero_add] at hv2
        have hcap2 : 1 ≤ cap2 := own_room (by first | exact hown2 | simpa using hown2) hv2
        have hcap3 : (1 : Int) ≤ cap2 := by omega
        subst hv2
        have hnew : ∀ x, Value.ownBlock _ = some x → V1.heap.size ≤ x := fun x hx => (hown3.lt x hx).1
        have HA3 : Shut _ := ⟨HA1.out.setRow hb2 (own_mono hown3 (by have := HBS.out; have := HW1.out.but.size; omega)) hnew⟩
        have HW3 : Shut _ := ⟨HW1.out.trans (PWent.row hb2 b _ vL hnew)⟩
        have hr2 := (HA1.out.on hb2).head
        have d2 : w2.cell? ⟨b.p, 2, none⟩ = some vL := hr2.cell 2 _ rfl
        have f2 := hr2.free 2
        clear hown3 hb2 hnew hr2
        go_wp2_with fail
        go_ret
        exact ⟨rfl, _, HA3.out, HW3.out⟩
      · obtain ⟨nL, hnL⟩ : ∃ nL, L.length = nL := ⟨_, rfl⟩
        rw [hnL] at hv
        clear hnL
        
        obtain ⟨_, _, c2, _, _⟩ := HA1.out.cells
        have r0 := HR1.out.cell 0 _ rfl
        have r1 := HR1.out.cell 1 _ rfl
        have r2 := HR1.out.cell 2 _ rfl
        obtain ⟨i0, hii, hz0, hz1, hz2⟩ := info_parts info_mem
        have hlt : (mcells (L.take p)).length = p * 5 := by rw [mcells_length, List.length_take, Nat.min_eq_left HL.out.2]
        have hld : (mcells (L.drop p)).length = (L.length - p) * 5 := by rw [mcells_length, List.length_drop]
        have HE : Shut ((mcells (L.take p) ++ [.int .i64 id, .int .u32 addr, .int .i64 port, .int .i64 1, .int .i64 (i : Int)]) ++ mcells (L.drop p) = mcells (L.take p ++ Mem.mk id.toNat addr.toNat port.toNat 1 i :: L.drop p)) := ⟨by
          rw [show L.take p ++ Mem.mk id.toNat addr.toNat port.toNat 1 i :: L.drop p = (L.take p ++ [Mem.mk id.toNat addr.toNat port.toNat 1 i]) ++ L.drop p by simp, mcells_append, mcells_append, show mcells [Mem.mk id.toNat addr.toNat port.toNat 1 i] = [.int .i64 id, .int .u32 addr, .int .i64 port, .int .i64 1, .int .i64 (i : Int)] by show (Mem.cells _ ++ []) = _; unfold Mem.cells; rw [HN.out.1, HN.out.2.1, HN.out.2.2]; rfl]⟩
        have HLE : Shut ((L.take p ++ Mem.mk id.toNat addr.toNat port.toNat 1 i :: L.drop p).length = p + 1 + (L.length - p)) := ⟨by rw [List.length_append, List.length_take, List.length_cons, List.length_drop, Nat.min_eq_left HL.out.2]; omega⟩
        have hcap := HA1.out.room_at hv
        have hcm := HA1.out.room_max hv
        have hnt := HA1.out.news_take hv p
        have hnd := HA1.out.news_drop hv p
        have ho1 := mcells_one (L.take p)
        have ho2 := mcells_one (L.drop p)
        rw [hv] at c2
        have HLN : Shut (nL = L.length) := ⟨by
          rcases HA1.out.row.2 with ⟨h1, _⟩ | ⟨g', cap, cur, h1, _⟩
          · rw [hv] at h1; cases h1
          · rw [hv] at h1; cases h1; rfl⟩
        generalize mcells (L.take p) = X1 at *
        generalize mcells (L.drop p) = X2 at *
        have HT : Shut ((∀ j u, X1[j]? = some u → V1.cell? ((⟨g, 0, none⟩ : Addr).add j) = some u) ∧ X1.length = p * 5 ∧ ∀ u ∈ X1, u.oneCell' = true) := ⟨hnt, hlt, ho1⟩
        have HD : Shut ((∀ j u, X2[j]? = some u → V1.cell? ((⟨g, p * 5, none⟩ : Addr).add j) = some u) ∧ X2.length = (L.length - p) * 5 ∧ ∀ u ∈ X2, u.oneCell' = true) := ⟨hnd, hld, ho2⟩
        have HC : Shut (L.length ≤ c ∧ c ≤ maxLen ∧ p ≤ L.length ∧ L.length ≤ 1000000) := ⟨hcap, hcm, HL.out.2, HL.out.1⟩
        obtain rfl := HLN.out.symm
        have hpc2 : p ≤ c := by have := HL.out; omega
        have hpc : (p : Int) ≤ c := by omega
        have hpl2 : p ≤ L.length := HL.out.2
        have hpl : (p : Int) ≤ L.length := by omega
        have hlc2 : L.length ≤ c := hcap
        have hlc : (L.length : Int) ≤ c := by omega
        have hp1 : (p : Int) ≤ 1000000 := by have := HL.out; omega
        have hl1 : (L.length : Int) ≤ 1000000 := by have := HL.out; omega
        have HV : Shut (vL = .slice (some ⟨g, 0, none⟩) L.length c) := ⟨hv⟩
        clear hv hcap hcm hnt hnd hlt hld ho1 ho2
        go_wp2_with (at_builtin; refine wpList_append_own _ rfl _ _ 43 rfl V1.heap.size 48 i0 (.agg #[.int .i64 0, .int .u32 0, .int .i64 0, .int .i64 0, .int .i64 0]) 5 40 Try.underlying43 hii hz0 hz1 hz2 rfl (by decide) _ _ _ rfl (World.ownsRow_nil _ _ _ _) ⟨g, 0, none⟩ p c X1 rfl ?k1c0 ?k1c1 ?k1c2 ?k1c3 ?k1c4 ?k1c5 ?_)
        case k1c0 => exact HT.out.2.1
        case k1c1 => intro j u hj; have h1 := HT.out.1 j u hj; first | exact h1 | (rw [add_zero'] at h1; exact h1) | (rw [add_at'] at h1; exact h1)
        case k1c2 => exact HT.out.2.2
        case k1c3 => have := HC.out; first | omega | (unfold maxLen; omega)
        case k1c4 => have := HC.out; omega
        try (case k1c5 => exact Nat.le_refl _)
        intro v1 w1 hown1 hgrow1 _
        have hb1 : Below V1.heap.size V1 w1 := grown_below (Below.refl _ _) hgrow1 (fun i e => by cases e)
        have HO1 : Shut (w1.ownsRow V1.heap.size 48 5 v1 p X1) := ⟨by first | exact hown1 | simpa using hown1⟩
        have HB1 : Shut (Below V1.heap.size V1 w1) := ⟨hb1⟩
        have hrb := HR1.out.on' hb1
        have r0 := hrb.cell 0 _ rfl
        have r1 := hrb.cell 1 _ rfl
        have r2 := hrb.cell 2 _ rfl
        clear hgrow1 hb1 hown1 c2 hrb
        go_wp2_with (at_builtin; refine wpList_append_own _ rfl _ _ 43 rfl V1.heap.size 48 i0 (.agg #[.int .i64 0, .int .u32 0, .int .i64 0, .int .i64 0, .int .i64 0]) 5 40 Try.underlying43 hii hz0 hz1 hz2 rfl (by decide) _ _ _ rfl (HO1.out.alloc _) ⟨w1.heap.size, 0, none⟩ 1 1 [.int .i64 id, .int .u32 addr, .int .i64 port, .int .i64 1, .int .i64 (i : Int)] rfl rfl ?k2c1 ?k2c2 ?k2c3 ?k2c4 ?k2c5 ?_)
        case k2c1 => exact cells_new w1 [.int .i64 id, .int .u32 addr, .int .i64 port, .int .i64 1, .int .i64 (i : Int)] 48
        case k2c2 => intro u hu; simp at hu; rcases hu with rfl | rfl | rfl | rfl | rfl <;> rfl
        case k2c3 => have := HC.out; first | omega | (unfold maxLen; omega)
        case k2c4 => have := HC.out; omega
        try (case k2c5 => have := HB1.out.size; simp; omega)
        intro v2 w2 hown2 hgrow2 _
        have hbV : Below V1.heap.size V1 (w1.alloc (.cells #[.int .i64 id, .int .u32 addr, .int .i64 port, .int .i64 1, .int .i64 (i : Int)] 48)) := HB1.out.alloc HB1.out.size _
        have hb2 : Below V1.heap.size V1 w2 := grown_below hbV hgrow2 (fun i e => (HO1.out.lt i e).1)
        have HO2 : Shut (w2.ownsRow V1.heap.size 48 5 v2 (p + 1) (X1 ++ [.int .i64 id, .int .u32 addr, .int .i64 port, .int .i64 1, .int .i64 (i : Int)])) := ⟨hown2⟩
        have HB2 : Shut (Below V1.heap.size V1 w2) := ⟨hb2⟩
        have HN2 : Shut (∀ j u, X2[j]? = some u → w2.cell? ((⟨g, p * 5, none⟩ : Addr).add j) = some u) := ⟨fun j u hj => by
          have h1 := HD.out.1 j u hj
          exact (World.cell?_of_block (hb2.block _ (World.block_lt_of_cell? V1 _ h1))).trans h1⟩
        have c2 : w2.cell? ⟨b.p, 2, none⟩ = some (.slice (some ⟨g, 0, none⟩) L.length c) := by
          have h1 := (HA1.out.on hb2).cells.2.2.1
          rw [HV.out] at h1
          exact h1
        clear hgrow2 hb2 hown2 hbV r0 r1 r2
        by_cases hcp : c = p
        · subst hcp
          have hLp : L.length = c := by have := HC.out; omega
          have HX2 : Shut (X2 = []) := ⟨List.eq_nil_of_length_eq_zero (by rw [HD.out.2.1]; omega)⟩
          have HN3 : Shut (∀ j u, X2[j]? = some u → w2.cell? ((⟨g, 0, none⟩ : Addr).add j) = some u) := ⟨fun j u hj => by rw [HX2.out] at hj; simp at hj⟩
          clear hLp
          
          go_wp2_with (at_builtin; refine wpList_append_own _ rfl _ _ 43 rfl V1.heap.size 48 i0 (.agg #[.int .i64 0, .int .u32 0, .int .i64 0, .int .i64 0, .int .i64 0]) 5 40 Try.underlying43 hii hz0 hz1 hz2 rfl (by decide) _ _ _ rfl HO2.out ⟨g, 0, none⟩ 0 0 X2 ?k3cx ?k3c0 ?k3c1 ?k3c2 ?k3c3 ?k3c4 ?k3c5 ?_)
          case k3cx => first | rfl | (simp; done) | (simp; omega)
          case k3c0 => first | exact HD.out.2.1 | (rw [HD.out.2.1]; have := HC.out; omega)
          case k3c1 => intro j u hj; have h1 := HN3.out j u hj; first | exact h1 | (rw [add_zero'] at h1; exact h1) | (rw [add_at'] at h1; exact h1)
          case k3c2 => exact HD.out.2.2
          case k3c3 => have := HC.out; first | omega | (unfold maxLen; omega)
          case k3c4 => have := HC.out; omega
          try (case k3c5 => exact HB2.out.size)
          intro v3 w3 hown3 hgrow3 _
          have hb2 : Below V1.heap.size V1 w3 := grown_below HB2.out hgrow3 (fun i e => (HO2.out.lt i e).1)
          have hown4 : w3.ownsRow V1.heap.size 48 5 v3 (c + 1 + (L.length - c)) (X1 ++ [.int .i64 id, .int .u32 addr, .int .i64 port, .int .i64 1, .int .i64 (i : Int)] ++ X2) := by
            simp only [List.append_assoc, List.cons_append, List.nil_append]
            first | exact hown3 | (have e : c + 1 + (L.length - c) = c + 1 := by have := HC.out; omega
                                   rw [e]; exact hown3)
          rw [HE.out, ← HLE.out] at hown4
          have hlen : (L.take c ++ Mem.mk id.toNat addr.toNat port.toNat 1 i :: L.drop c).length = L.length + 1 := by rw [HLE.out]; have := HC.out; omega
          have hown3 := hown4
          obtain ⟨g2, cap2, hv2⟩ := @own_succ _ _ _ _ _ L.length _ (by rw [← hlen]; exact hown3)
          clear hlen hown4
          subst hv2
          have hnew : ∀ x, Value.ownBlock _ = some x → V1.heap.size ≤ x := fun x hx => (hown3.lt x hx).1
          have HA3 : Shut _ := ⟨HA1.out.setRow hb2 (own_mono hown3 (by have := HBS.out; have := HW1.out.but.size; omega)) hnew⟩
          have HW3 : Shut _ := ⟨HW1.out.trans (PWent.row hb2 b _ vL hnew)⟩
          have hr2 := (HA1.out.on hb2).head
          have d2 : w3.cell? ⟨b.p, 2, none⟩ = some vL := hr2.cell 2 _ rfl
          have f2 := hr2.free 2
          clear hown3 hb2 hnew hr2
          go_wp2_with fail
          go_ret
          exact ⟨rfl, _, HA3.out, HW3.out⟩
        · go_wp2_with (at_builtin; refine wpList_append_own _ rfl _ _ 43 rfl V1.heap.size 48 i0 (.agg #[.int .i64 0, .int .u32 0, .int .i64 0, .int .i64 0, .int .i64 0]) 5 40 Try.underlying43 hii hz0 hz1 hz2 rfl (by decide) _ _ _ rfl HO2.out ⟨g, p * 5, none⟩ (L.length - p) (c - p) X2 ?k4cx ?k4c0 ?k4c1 ?k4c2 ?k4c3 ?k4c4 ?k4c5 ?_)
          case k4cx => first | rfl | (simp; done) | (simp; omega)
          case k4c0 => first | exact HD.out.2.1 | (rw [HD.out.2.1]; have := HC.out; omega)
          case k4c1 => intro j u hj; have h1 := HN2.out j u hj; first | exact h1 | (rw [add_zero'] at h1; exact h1) | (rw [add_at'] at h1; exact h1)
          case k4c2 => exact HD.out.2.2
          case k4c3 => have := HC.out; first | omega | (unfold maxLen; omega)
          case k4c4 => have := HC.out; omega
          try (case k4c5 => exact HB2.out.size)
          intro v3 w3 hown3 hgrow3 _
          have hb2 : Below V1.heap.size V1 w3 := grown_below HB2.out hgrow3 (fun i e => (HO2.out.lt i e).1)
          have hown4 : w3.ownsRow V1.heap.size 48 5 v3 (p + 1 + (L.length - p)) (X1 ++ [.int .i64 id, .int .u32 addr, .int .i64 port, .int .i64 1, .int .i64 (i : Int)] ++ X2) := by
            simp only [List.append_assoc, List.cons_append, List.nil_append]
            first | exact hown3 | (have e : p + 1 + (L.length - p) = p + 1 := by have := HC.out; omega
                                   rw [e]; exact hown3)
          rw [HE.out, ← HLE.out] at hown4
          have hlen : (L.take p ++ Mem.mk id.toNat addr.toNat port.toNat 1 i :: L.drop p).length = L.length + 1 := by rw [HLE.out]; have := HC.out; omega
          have hown3 := hown4
          obtain ⟨g2, cap2, hv2⟩ := @own_succ _ _ _ _ _ L.length _ (by rw [← hlen]; exact hown3)
          clear hlen hown4
          subst hv2
          have hnew : ∀ x, Value.ownBlock _ = some x → V1.heap.size ≤ x := fun x hx => (hown3.lt x hx).1
          have HA3 : Shut _ := ⟨HA1.out.setRow hb2 (own_mono hown3 (by have := HBS.out; have := HW1.out.but.size; omega)) hnew⟩
          have HW3 : Shut _ := ⟨HW1.out.trans (PWent.row hb2 b _ vL hnew)⟩
          have hr2 := (HA1.out.on hb2).head
          have d2 : w3.cell? ⟨b.p, 2, none⟩ = some vL := hr2.cell 2 _ rfl
          have f2 := hr2.free 2
          clear hown3 hb2 hnew hr2
          go_wp2_with fail
          go_ret
          exact ⟨rfl, _, HA3.out, HW3.out⟩
set_option maxRecDepth 100000 in
set_option maxHeartbeats 8000000 in
theorem rput_more (h : RAt base w key room b v vL s L own) (hR : An.Reach room s) (hr : room ≤ 65536) (hl : L.length ≤ 1000000) (id addr port : Int) (hf : Fine id port) (hidn : (id.toNat : Int) = id ∧ (addr.toNat : Int) = addr ∧ (port.toNat : Int) = port) (ht : Po.there L id = false) (hact : 0 < Po.active L) (hfull : Po.active L ≠ room) (k : Nat) (hk : k < room) (hB : addB s = (k : Int)) :
    Calls Try.prog 25 #[.pointer (some ⟨b.p, 0, none⟩), .agg #[.int .i64 id, .int .u32 addr, .int .i64 port]] w fun e w' => e = .returned (.int .i64 0) ∧
      ∃ v' vL', RAt base w' key room b v' vL' (addS s) (L.take (Po.place L id) ++ Mem.mk id.toNat addr.toNat port.toNat 1 k :: L.drop (Po.place L id)) (upd own k id.toNat) ∧ PWent w w' b v vL v' vL' := by
  obtain ⟨h1, h2, h3, h4⟩ := hf
  have q1 : ¬ id < 1 := by omega
  have q2 : ¬ 65535 < id := by omega
  have q3 : ¬ port < 0 := by omega
  have q4 : ¬ 65535 < port := by omega
  have hb0 : Below w.heap.size w (w.alloc (.cells #[.int .i64 id, .int .u32 addr, .int .i64 port] 33)) := (Below.refl _ _).alloc (Nat.le_refl _) _
  have hr0 := row_new w [.int .i64 id, .int .u32 addr, .int .i64 port] 33
  have hp := rplace_any (h.on hb0) hl id
  rw [ht] at hp
  obtain ⟨p, hpp⟩ : ∃ p, Po.place L id = p := ⟨_, rfl⟩
  have hpl := Po.place_le L id
  rw [hpp] at hp hpl ⊢
  have HA0 : Shut _ := ⟨h.on hb0⟩
  have HL : Shut (L.length ≤ 1000000 ∧ p ≤ L.length) := ⟨hl, hpl⟩
  have HX0 : Shut (Below w.heap.size w (w.alloc (.cells #[.int .i64 id, .int .u32 addr, .int .i64 port] 33)) ∧ Row (w.alloc (.cells #[.int .i64 id, .int .u32 addr, .int .i64 port] 33)) w.heap.size [.int .i64 id, .int .u32 addr, .int .i64 port] ∧ base ≤ w.heap.size) := ⟨hb0, hr0, by have := h.lt b.p (mem_p b _ _); omega⟩
  have HF : Shut (∀ x ∈ rfeet b v vL, x < w.heap.size) := ⟨fun x hx => (h.lt x hx).2⟩
  have HN : Shut ((id.toNat : Int) = id ∧ (addr.toNat : Int) = addr ∧ (port.toNat : Int) = port) := ⟨hidn⟩
  have HK : Shut (k < room ∧ room ≤ 65536 ∧ addB s = (k : Int) ∧ An.Reach room s) := ⟨hk, hr, hB, hR⟩
  obtain ⟨A, hA⟩ : ∃ A, Po.active L = A := ⟨_, rfl⟩
  have HAC : Shut (Po.active L = A) := ⟨hA⟩
  rw [hA] at hact hfull
  have ne1 : ((A : Int) == (room : Int)) = false := by rw [beq_eq_false_iff_ne]; omega
  have ne2 : (A == room) = false := by rw [beq_eq_false_iff_ne]; exact hfull
  have pos1 : (0 : Int) < A := by omega
  have pos2 : 0 < A := hact
  clear hidn hk hr hB hR hact hfull hA
  clear h hl ht hpp hb0 hr0 h1 h2 h3 h4 hpl
  go_enter Try.func25, Try.ntmps25
  go_wp2_with fail
  refine hp.mono ?_
  rintro e w1 ⟨rfl, n, hw⟩
  obtain rfl := hw.symm
  have HA : Shut (RAt base ((w.alloc (.cells #[.int .i64 id, .int .u32 addr, .int .i64 port] 33)).drewN n) key room b v vL s L own) := ⟨HA0.out.drewN n⟩
  have HR : Shut (Row ((w.alloc (.cells #[.int .i64 id, .int .u32 addr, .int .i64 port] 33)).drewN n) w.heap.size [.int .i64 id, .int .u32 addr, .int .i64 port]) := ⟨HX0.out.2.1⟩
  have HW : Shut (PWent w ((w.alloc (.cells #[.int .i64 id, .int .u32 addr, .int .i64 port] 33)).drewN n) b v vL v vL) := ⟨PWent.of (below_drewN HX0.out.1 n) b v vL⟩
  have HB : Shut (Below w.heap.size w ((w.alloc (.cells #[.int .i64 id, .int .u32 addr, .int .i64 port] 33)).drewN n)) := ⟨below_drewN HX0.out.1 n⟩
  have HBS : Shut (base ≤ w.heap.size) := ⟨HX0.out.2.2⟩
  clear HA0 HX0 hp hw
  generalize (w.alloc (.cells #[.int .i64 id, .int .u32 addr, .int .i64 port] 33)).drewN n = V at *
  go_wp2_with fail
  refine (ractive_any HA.out HL.out.1).mono ?_
  rintro e w2 ⟨rfl, hw2⟩
  obtain rfl := hw2.symm
  clear hw2
  obtain ⟨c0, c1, c2, c3, c4⟩ := HA.out.cells
  rw [HAC.out]
  have hcall := radd_any (w := V) HA.out.an HK.out.2.2.2 HK.out.2.1
  rw [HK.out.2.2.1] at hcall
  obtain ⟨E, hE⟩ : ∃ E, addE s = E := ⟨_, rfl⟩
  rw [hE] at hcall
  clear hE
  go_wp2_with fail
  refine hcall.mono ?_
  rintro e V2 ⟨rfl, v', hAn, hwent⟩
  have HA2 : Shut (RAt base V2 key room b v' vL (addS s) L own) := ⟨HA.out.anchor hAn hwent⟩
  have HW2 : Shut (PWent w V2 b v vL v' vL) := ⟨HW.out.trans (PWent.anchor hwent vL)⟩
  have HR2 : Shut (Row V2 w.heap.size [.int .i64 id, .int .u32 addr, .int .i64 port]) := ⟨HR.out.but hwent.but (fun hx => by have := HF.out w.heap.size (by simp [rfeet, hx]); omega)⟩
  clear c0 c1 c2 c3 c4 hcall hAn hwent HA HW HR HB ne1 ne2 pos1 pos2
  obtain ⟨c0, c1, c2, c3, c4⟩ := HA2.out.cells
  have hkroom : k < room := HK.out.1
  have hkroom1 : (k : Int) < room := by omega
  have co := HA2.out.own.cell k hkroom
  have fo := HA2.out.own.free k
  have r0 := HR2.out.cell 0 _ rfl
  have HA1 : Shut (RAt base (V2.setCell ⟨b.o, k, none⟩ (.int .i64 id)).drew key room b v' vL (addS s) L (upd own k id.toNat)) := ⟨by
    have h1 := (HA2.out.setOwn k id.toNat hkroom).drew
    rw [HN.out.1] at h1
    exact h1⟩
  have HW1 : Shut (PWent w (V2.setCell ⟨b.o, k, none⟩ (.int .i64 id)).drew b v vL v' vL) := ⟨(HW2.out.cell (mem_o b v vL) k (.int .i64 id)).drew⟩
  have HR1 : Shut (Row (V2.setCell ⟨b.o, k, none⟩ (.int .i64 id)).drew w.heap.size [.int .i64 id, .int .u32 addr, .int .i64 port]) := ⟨HR2.out.other (by have := HF.out b.o (mem_o b v vL); omega) _ _⟩
  clear hkroom HA2 HW2 HR2
  go_wp2_with fail
  go_region
  generalize (V2.setCell ⟨b.o, k, none⟩ (.int .i64 id)).drew = V1 at *
  clear c0 c1 c2 c3 c4 co fo r0 hkroom1
  rcases (HA1.out.row.2) with ⟨hv, _⟩ | ⟨g, c, cur, hv, _⟩
  · obtain ⟨_, _, c2, _, _⟩ := HA1.out.cells
    have r0 := HR1.out.cell 0 _ rfl
    have r1 := HR1.out.cell 1 _ rfl
    have r2 := HR1.out.cell 2 _ rfl
    obtain ⟨i0, hii, hz0, hz1, hz2⟩ := info_parts info_mem
    have hlt : (mcells (L.take p)).length = p * 5 := by rw [mcells_length, List.length_take, Nat.min_eq_left HL.out.2]
    have hld : (mcells (L.drop p)).length = (L.length - p) * 5 := by rw [mcells_length, List.length_drop]
    have HE : Shut ((mcells (L.take p) ++ [.int .i64 id, .int .u32 addr, .int .i64 port, .int .i64 1, .int .i64 (k : Int)]) ++ mcells (L.drop p) = mcells (L.take p ++ Mem.mk id.toNat addr.toNat port.toNat 1 k :: L.drop p)) := ⟨by
      rw [show L.take p ++ Mem.mk id.toNat addr.toNat port.toNat 1 k :: L.drop p = (L.take p ++ [Mem.mk id.toNat addr.toNat port.toNat 1 k]) ++ L.drop p by simp, mcells_append, mcells_append, show mcells [Mem.mk id.toNat addr.toNat port.toNat 1 k] = [.int .i64 id, .int .u32 addr, .int .i64 port, .int .i64 1, .int .i64 (k : Int)] by show (Mem.cells _ ++ []) = _; unfold Mem.cells; rw [HN.out.1, HN.out.2.1, HN.out.2.2]; rfl]⟩
    have HLE : Shut ((L.take p ++ Mem.mk id.toNat addr.toNat port.toNat 1 k :: L.drop p).length = p + 1 + (L.length - p)) := ⟨by rw [List.length_append, List.length_take, List.length_cons, List.length_drop, Nat.min_eq_left HL.out.2]; omega⟩
    have hL0 : L.length = 0 := by
      rcases HA1.out.row.2 with ⟨_, h2⟩ | ⟨g, cap, cur, h1, _⟩
      · exact h2
      · rw [hv] at h1; cases h1
    have hp0 : p = 0 := by have := HL.out; omega
    have hX1 : mcells (L.take p) = [] := List.eq_nil_of_length_eq_zero (by rw [hlt]; omega)
    have hX2 : mcells (L.drop p) = [] := List.eq_nil_of_length_eq_zero (by rw [hld]; omega)
    have HE2 : Shut ([.int .i64 id, .int .u32 addr, .int .i64 port, .int .i64 1, .int .i64 (k : Int)] = mcells (L.take p ++ Mem.mk id.toNat addr.toNat port.toNat 1 k :: L.drop p)) := ⟨by rw [← HE.out, hX1, hX2]; simp⟩
    have HLE2 : Shut ((L.take p ++ Mem.mk id.toNat addr.toNat port.toNat 1 k :: L.drop p).length = 1) := ⟨by rw [HLE.out]; omega⟩
    rw [hv] at c2
    clear hlt hld hX1 hX2 HE HLE hL0
    subst hp0
    go_wp2_with (at_builtin; refine wpList_append_own _ rfl _ _ 43 rfl V1.heap.size 48 i0 (.agg #[.int .i64 0, .int .u32 0, .int .i64 0, .int .i64 0, .int .i64 0]) 5 40 Try.underlying43 hii hz0 hz1 hz2 rfl (by decide) _ _ _ rfl (World.ownsRow_nil _ _ _ _) ⟨V1.heap.size, 0, none⟩ 1 1 [.int .i64 id, .int .u32 addr, .int .i64 port, .int .i64 1, .int .i64 (k : Int)] rfl rfl ?k5c1 ?k5c2 ?k5c3 ?k5c4 ?k5c5 ?_)
    case k5c1 => exact cells_new V1 [.int .i64 id, .int .u32 addr, .int .i64 port, .int .i64 1, .int .i64 (k : Int)] 48
    case k5c2 => intro u hu; simp at hu; rcases hu with rfl | rfl | rfl | rfl | rfl <;> rfl
    case k5c3 => decide
    case k5c4 => decide
    try (case k5c5 => simp)
    intro v2 w2 hown2 hgrow2 _
    have hbV : Below V1.heap.size V1 (V1.alloc (.cells #[.int .i64 id, .int .u32 addr, .int .i64 port, .int .i64 1, .int .i64 (k : Int)] 48)) := (Below.refl _ _).alloc (Nat.le_refl _) _
    have hb2 : Below V1.heap.size V1 w2 := grown_below hbV hgrow2 (fun k e => by cases e)
    have hown3 : w2.ownsRow V1.heap.size 48 5 v2 (L.take 0 ++ Mem.mk id.toNat addr.toNat port.toNat 1 k :: L.drop 0).length (mcells (L.take 0 ++ Mem.mk id.toNat addr.toNat port.toNat 1 k :: L.drop 0)) := by rw [HLE2.out, ← HE2.out]; first | exact hown2 | simpa using hown2
    obtain ⟨g2, cap2, hv2⟩ := @own_succ _ _ _ _ _ 0 _ (by first | exact hown2 | simpa using hown2)
    rw [Nat.zero_add] at hv2
    have hcap2 : 1 ≤ cap2 := own_room (by first | exact hown2 | simpa using hown2) hv2
    have hcap3 : (1 : Int) ≤ cap2 := by omega
    subst hv2
    have hnew : ∀ x, Value.ownBlock _ = some x → V1.heap.size ≤ x := fun x hx => (hown3.lt x hx).1
    have HA3 : Shut _ := ⟨HA1.out.setRow hb2 (own_mono hown3 (by have := HBS.out; have := HW1.out.but.size; omega)) hnew⟩
    have HW3 : Shut _ := ⟨HW1.out.trans (PWent.row hb2 b _ vL hnew)⟩
    have hr2 := (HA1.out.on hb2).head
    have d2 : w2.cell? ⟨b.p, 2, none⟩ = some vL := hr2.cell 2 _ rfl
    have f2 := hr2.free 2
    clear hown3 hb2 hnew hr2
    go_wp2_with fail
    go_ret
    exact ⟨rfl, _, _, HA3.out, HW3.out⟩
  · obtain ⟨nL, hnL⟩ : ∃ nL, L.length = nL := ⟨_, rfl⟩
    rw [hnL] at hv
    clear hnL
    
    obtain ⟨_, _, c2, _, _⟩ := HA1.out.cells
    have r0 := HR1.out.cell 0 _ rfl
    have r1 := HR1.out.cell 1 _ rfl
    have r2 := HR1.out.cell 2 _ rfl
    obtain ⟨i0, hii, hz0, hz1, hz2⟩ := info_parts info_mem
    have hlt : (mcells (L.take p)).length = p * 5 := by rw [mcells_length, List.length_take, Nat.min_eq_left HL.out.2]
    have hld : (mcells (L.drop p)).length = (L.length - p) * 5 := by rw [mcells_length, List.length_drop]
    have HE : Shut ((mcells (L.take p) ++ [.int .i64 id, .int .u32 addr, .int .i64 port, .int .i64 1, .int .i64 (k : Int)]) ++ mcells (L.drop p) = mcells (L.take p ++ Mem.mk id.toNat addr.toNat port.toNat 1 k :: L.drop p)) := ⟨by
      rw [show L.take p ++ Mem.mk id.toNat addr.toNat port.toNat 1 k :: L.drop p = (L.take p ++ [Mem.mk id.toNat addr.toNat port.toNat 1 k]) ++ L.drop p by simp, mcells_append, mcells_append, show mcells [Mem.mk id.toNat addr.toNat port.toNat 1 k] = [.int .i64 id, .int .u32 addr, .int .i64 port, .int .i64 1, .int .i64 (k : Int)] by show (Mem.cells _ ++ []) = _; unfold Mem.cells; rw [HN.out.1, HN.out.2.1, HN.out.2.2]; rfl]⟩
    have HLE : Shut ((L.take p ++ Mem.mk id.toNat addr.toNat port.toNat 1 k :: L.drop p).length = p + 1 + (L.length - p)) := ⟨by rw [List.length_append, List.length_take, List.length_cons, List.length_drop, Nat.min_eq_left HL.out.2]; omega⟩
    have hcap := HA1.out.room_at hv
    have hcm := HA1.out.room_max hv
    have hnt := HA1.out.news_take hv p
    have hnd := HA1.out.news_drop hv p
    have ho1 := mcells_one (L.take p)
    have ho2 := mcells_one (L.drop p)
    rw [hv] at c2
    have HLN : Shut (nL = L.length) := ⟨by
      rcases HA1.out.row.2 with ⟨h1, _⟩ | ⟨g', cap, cur, h1, _⟩
      · rw [hv] at h1; cases h1
      · rw [hv] at h1; cases h1; rfl⟩
    generalize mcells (L.take p) = X1 at *
    generalize mcells (L.drop p) = X2 at *
    have HT : Shut ((∀ j u, X1[j]? = some u → V1.cell? ((⟨g, 0, none⟩ : Addr).add j) = some u) ∧ X1.length = p * 5 ∧ ∀ u ∈ X1, u.oneCell' = true) := ⟨hnt, hlt, ho1⟩
    have HD : Shut ((∀ j u, X2[j]? = some u → V1.cell? ((⟨g, p * 5, none⟩ : Addr).add j) = some u) ∧ X2.length = (L.length - p) * 5 ∧ ∀ u ∈ X2, u.oneCell' = true) := ⟨hnd, hld, ho2⟩
    have HC : Shut (L.length ≤ c ∧ c ≤ maxLen ∧ p ≤ L.length ∧ L.length ≤ 1000000) := ⟨hcap, hcm, HL.out.2, HL.out.1⟩
    obtain rfl := HLN.out.symm
    have hpc2 : p ≤ c := by have := HL.out; omega
    have hpc : (p : Int) ≤ c := by omega
    have hpl2 : p ≤ L.length := HL.out.2
    have hpl : (p : Int) ≤ L.length := by omega
    have hlc2 : L.length ≤ c := hcap
    have hlc : (L.length : Int) ≤ c := by omega
    have hp1 : (p : Int) ≤ 1000000 := by have := HL.out; omega
    have hl1 : (L.length : Int) ≤ 1000000 := by have := HL.out; omega
    have HV : Shut (vL = .slice (some ⟨g, 0, none⟩) L.length c) := ⟨hv⟩
    clear hv hcap hcm hnt hnd hlt hld ho1 ho2
    go_wp2_with (at_builtin; refine wpList_append_own _ rfl _ _ 43 rfl V1.heap.size 48 i0 (.agg #[.int .i64 0, .int .u32 0, .int .i64 0, .int .i64 0, .int .i64 0]) 5 40 Try.underlying43 hii hz0 hz1 hz2 rfl (by decide) _ _ _ rfl (World.ownsRow_nil _ _ _ _) ⟨g, 0, none⟩ p c X1 rfl ?k6c0 ?k6c1 ?k6c2 ?k6c3 ?k6c4 ?k6c5 ?_)
    case k6c0 => exact HT.out.2.1
    case k6c1 => intro j u hj; have h1 := HT.out.1 j u hj; first | exact h1 | (rw [add_zero'] at h1; exact h1) | (rw [add_at'] at h1; exact h1)
    case k6c2 => exact HT.out.2.2
    case k6c3 => have := HC.out; first | omega | (unfold maxLen; omega)
    case k6c4 => have := HC.out; omega
    try (case k6c5 => exact Nat.le_refl _)
    intro v1 w1 hown1 hgrow1 _
    have hb1 : Below V1.heap.size V1 w1 := grown_below (Below.refl _ _) hgrow1 (fun k e => by cases e)
    have HO1 : Shut (w1.ownsRow V1.heap.size 48 5 v1 p X1) := ⟨by first | exact hown1 | simpa using hown1⟩
    have HB1 : Shut (Below V1.heap.size V1 w1) := ⟨hb1⟩
    have hrb := HR1.out.on' hb1
    have r0 := hrb.cell 0 _ rfl
    have r1 := hrb.cell 1 _ rfl
    have r2 := hrb.cell 2 _ rfl
    clear hgrow1 hb1 hown1 c2 hrb
    go_wp2_with (at_builtin; refine wpList_append_own _ rfl _ _ 43 rfl V1.heap.size 48 i0 (.agg #[.int .i64 0, .int .u32 0, .int .i64 0, .int .i64 0, .int .i64 0]) 5 40 Try.underlying43 hii hz0 hz1 hz2 rfl (by decide) _ _ _ rfl (HO1.out.alloc _) ⟨w1.heap.size, 0, none⟩ 1 1 [.int .i64 id, .int .u32 addr, .int .i64 port, .int .i64 1, .int .i64 (k : Int)] rfl rfl ?k7c1 ?k7c2 ?k7c3 ?k7c4 ?k7c5 ?_)
    case k7c1 => exact cells_new w1 [.int .i64 id, .int .u32 addr, .int .i64 port, .int .i64 1, .int .i64 (k : Int)] 48
    case k7c2 => intro u hu; simp at hu; rcases hu with rfl | rfl | rfl | rfl | rfl <;> rfl
    case k7c3 => have := HC.out; first | omega | (unfold maxLen; omega)
    case k7c4 => have := HC.out; omega
    try (case k7c5 => have := HB1.out.size; simp; omega)
    intro v2 w2 hown2 hgrow2 _
    have hbV : Below V1.heap.size V1 (w1.alloc (.cells #[.int .i64 id, .int .u32 addr, .int .i64 port, .int .i64 1, .int .i64 (k : Int)] 48)) := HB1.out.alloc HB1.out.size _
    have hb2 : Below V1.heap.size V1 w2 := grown_below hbV hgrow2 (fun k e => (HO1.out.lt k e).1)
    have HO2 : Shut (w2.ownsRow V1.heap.size 48 5 v2 (p + 1) (X1 ++ [.int .i64 id, .int .u32 addr, .int .i64 port, .int .i64 1, .int .i64 (k : Int)])) := ⟨hown2⟩
    have HB2 : Shut (Below V1.heap.size V1 w2) := ⟨hb2⟩
    have HN2 : Shut (∀ j u, X2[j]? = some u → w2.cell? ((⟨g, p * 5, none⟩ : Addr).add j) = some u) := ⟨fun j u hj => by
      have h1 := HD.out.1 j u hj
      exact (World.cell?_of_block (hb2.block _ (World.block_lt_of_cell? V1 _ h1))).trans h1⟩
    have c2 : w2.cell? ⟨b.p, 2, none⟩ = some (.slice (some ⟨g, 0, none⟩) L.length c) := by
      have h1 := (HA1.out.on hb2).cells.2.2.1
      rw [HV.out] at h1
      exact h1
    clear hgrow2 hb2 hown2 hbV r0 r1 r2
    by_cases hcp : c = p
    · subst hcp
      have hLp : L.length = c := by have := HC.out; omega
      have HX2 : Shut (X2 = []) := ⟨List.eq_nil_of_length_eq_zero (by rw [HD.out.2.1]; omega)⟩
      have HN3 : Shut (∀ j u, X2[j]? = some u → w2.cell? ((⟨g, 0, none⟩ : Addr).add j) = some u) := ⟨fun j u hj => by rw [HX2.out] at hj; simp at hj⟩
      clear hLp
      
      go_wp2_with (at_builtin; refine wpList_append_own _ rfl _ _ 43 rfl V1.heap.size 48 i0 (.agg #[.int .i64 0, .int .u32 0, .int .i64 0, .int .i64 0, .int .i64 0]) 5 40 Try.underlying43 hii hz0 hz1 hz2 rfl (by decide) _ _ _ rfl HO2.out ⟨g, 0, none⟩ 0 0 X2 ?k8cx ?k8c0 ?k8c1 ?k8c2 ?k8c3 ?k8c4 ?k8c5 ?_)
      case k8cx => first | rfl | (simp; done) | (simp; omega)
      case k8c0 => first | exact HD.out.2.1 | (rw [HD.out.2.1]; have := HC.out; omega)
      case k8c1 => intro j u hj; have h1 := HN3.out j u hj; first | exact h1 | (rw [add_zero'] at h1; exact h1) | (rw [add_at'] at h1; exact h1)
      case k8c2 => exact HD.out.2.2
      case k8c3 => have := HC.out; first | omega | (unfold maxLen; omega)
      case k8c4 => have := HC.out; omega
      try (case k8c5 => exact HB2.out.size)
      intro v3 w3 hown3 hgrow3 _
      have hb2 : Below V1.heap.size V1 w3 := grown_below HB2.out hgrow3 (fun k e => (HO2.out.lt k e).1)
      have hown4 : w3.ownsRow V1.heap.size 48 5 v3 (c + 1 + (L.length - c)) (X1 ++ [.int .i64 id, .int .u32 addr, .int .i64 port, .int .i64 1, .int .i64 (k : Int)] ++ X2) := by
        simp only [List.append_assoc, List.cons_append, List.nil_append]
        first | exact hown3 | (have e : c + 1 + (L.length - c) = c + 1 := by have := HC.out; omega
                               rw [e]; exact hown3)
      rw [HE.out, ← HLE.out] at hown4
      have hlen : (L.take c ++ Mem.mk id.toNat addr.toNat port.toNat 1 k :: L.drop c).length = L.length + 1 := by rw [HLE.out]; have := HC.out; omega
      have hown3 := hown4
      obtain ⟨g2, cap2, hv2⟩ := @own_succ _ _ _ _ _ L.length _ (by rw [← hlen]; exact hown3)
      clear hlen hown4
      subst hv2
      have hnew : ∀ x, Value.ownBlock _ = some x → V1.heap.size ≤ x := fun x hx => (hown3.lt x hx).1
      have HA3 : Shut _ := ⟨HA1.out.setRow hb2 (own_mono hown3 (by have := HBS.out; have := HW1.out.but.size; omega)) hnew⟩
      have HW3 : Shut _ := ⟨HW1.out.trans (PWent.row hb2 b _ vL hnew)⟩
      have hr2 := (HA1.out.on hb2).head
      have d2 : w3.cell? ⟨b.p, 2, none⟩ = some vL := hr2.cell 2 _ rfl
      have f2 := hr2.free 2
      clear hown3 hb2 hnew hr2
      go_wp2_with fail
      go_ret
      exact ⟨rfl, _, _, HA3.out, HW3.out⟩
    · go_wp2_with (at_builtin; refine wpList_append_own _ rfl _ _ 43 rfl V1.heap.size 48 i0 (.agg #[.int .i64 0, .int .u32 0, .int .i64 0, .int .i64 0, .int .i64 0]) 5 40 Try.underlying43 hii hz0 hz1 hz2 rfl (by decide) _ _ _ rfl HO2.out ⟨g, p * 5, none⟩ (L.length - p) (c - p) X2 ?k9cx ?k9c0 ?k9c1 ?k9c2 ?k9c3 ?k9c4 ?k9c5 ?_)
      case k9cx => first | rfl | (simp; done) | (simp; omega)
      case k9c0 => first | exact HD.out.2.1 | (rw [HD.out.2.1]; have := HC.out; omega)
      case k9c1 => intro j u hj; have h1 := HN2.out j u hj; first | exact h1 | (rw [add_zero'] at h1; exact h1) | (rw [add_at'] at h1; exact h1)
      case k9c2 => exact HD.out.2.2
      case k9c3 => have := HC.out; first | omega | (unfold maxLen; omega)
      case k9c4 => have := HC.out; omega
      try (case k9c5 => exact HB2.out.size)
      intro v3 w3 hown3 hgrow3 _
      have hb2 : Below V1.heap.size V1 w3 := grown_below HB2.out hgrow3 (fun k e => (HO2.out.lt k e).1)
      have hown4 : w3.ownsRow V1.heap.size 48 5 v3 (p + 1 + (L.length - p)) (X1 ++ [.int .i64 id, .int .u32 addr, .int .i64 port, .int .i64 1, .int .i64 (k : Int)] ++ X2) := by
        simp only [List.append_assoc, List.cons_append, List.nil_append]
        first | exact hown3 | (have e : p + 1 + (L.length - p) = p + 1 := by have := HC.out; omega
                               rw [e]; exact hown3)
      rw [HE.out, ← HLE.out] at hown4
      have hlen : (L.take p ++ Mem.mk id.toNat addr.toNat port.toNat 1 k :: L.drop p).length = L.length + 1 := by rw [HLE.out]; have := HC.out; omega
      have hown3 := hown4
      obtain ⟨g2, cap2, hv2⟩ := @own_succ _ _ _ _ _ L.length _ (by rw [← hlen]; exact hown3)
      clear hlen hown4
      subst hv2
      have hnew : ∀ x, Value.ownBlock _ = some x → V1.heap.size ≤ x := fun x hx => (hown3.lt x hx).1
      have HA3 : Shut _ := ⟨HA1.out.setRow hb2 (own_mono hown3 (by have := HBS.out; have := HW1.out.but.size; omega)) hnew⟩
      have HW3 : Shut _ := ⟨HW1.out.trans (PWent.row hb2 b _ vL hnew)⟩
      have hr2 := (HA1.out.on hb2).head
      have d2 : w3.cell? ⟨b.p, 2, none⟩ = some vL := hr2.cell 2 _ rfl
      have f2 := hr2.free 2
      clear hown3 hb2 hnew hr2
      go_wp2_with fail
      go_ret
      exact ⟨rfl, _, _, HA3.out, HW3.out⟩
end
end Go.Proofs.Ytckkdgifjgkoaaa
