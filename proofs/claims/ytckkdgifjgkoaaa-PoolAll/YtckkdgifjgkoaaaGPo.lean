/- leave of the reference of chapter 13. -/
import Derived.Test.YtckkdgifjgkoaaaPoSet
namespace Go.Proofs.Ytckkdgifjgkoaaa
open Go.ChangeShapes Go.WideShapes Go.ChangeAt Go.RowKit An

namespace Po
/-- The anchor, behind an active one has gone, whose bucket was k. -/
def leaveS (s : An) (L : List Mem) (k : Nat) : An := if 1 < active L then remS s k else s
def out (m : Mem) : Mem := { m with bk := 0 }
end Po
section
variable {base : Nat} {w : World} {key : ByteArray} {room : Nat} {b : RBk} {v vL : Value} {s : An} {L : List Mem} {own : Nat → Nat}
set_option maxRecDepth 100000 in
set_option maxHeartbeats 4000000 in
theorem rleave_any (h : RAt base w key room b v vL s L own) (hR : An.Reach room s) (hr : room ≤ 65536) (hl : L.length ≤ 1000000) (i : Nat) (m : Mem) (hm : L[i]? = some m) (hk : m.bk < room) :
    Calls Try.prog 46 #[.pointer (some ⟨b.p, 0, none⟩), .int .i64 (i : Int)] w fun e w' => e = .returned (.tuple #[]) ∧
      ∃ v', RAt base w' key room b v' vL (Po.leaveS s L m.bk) (L.set i (Po.out m)) (upd own m.bk 0) ∧ PWent w w' b v vL v' vL := by
  have hi : i < L.length := (List.getElem?_eq_some_iff.1 hm).1
  obtain ⟨g, c, hv, m0, m1, m2, m3, m4, f3, f4⟩ := h.mem i m hm
  obtain ⟨c0, c1, c2, c3, c4⟩ := h.cells
  rw [hv] at c2
  obtain ⟨k, hkk⟩ : ∃ k, m.bk = k := ⟨_, rfl⟩
  rw [hkk] at m4 hk ⊢
  have HM : Shut (L[i]? = some m) := ⟨hm⟩
  have HK : Shut (m.bk = k) := ⟨hkk⟩
  have HV : Shut (vL = .slice (some ⟨g, 0, none⟩) L.length c) := ⟨hv⟩
  have HL : Shut (L.length ≤ 1000000) := ⟨hl⟩
  have HR : Shut (An.Reach room s) := ⟨hR⟩
  have HRM : Shut (room ≤ 65536 ∧ k < room) := ⟨hr, hk⟩
  have hi1 : (i : Int) < L.length := by omega
  have hk1 : (k : Int) < room := by omega
  have fo := h.own.free k
  have co := h.own.cell k hk
  have HA : Shut (RAt base (w.setCell ⟨b.o, k, none⟩ (.int .i64 0)).drew key room b v vL s L (upd own k 0)) := ⟨(h.setOwn k 0 hk).drew⟩
  have HW : Shut (PWent w (w.setCell ⟨b.o, k, none⟩ (.int .i64 0)).drew b v vL v vL) := ⟨((PWent.refl w b v vL).cell (mem_o b v vL) k (.int .i64 0)).drew⟩
  clear h hm hkk hv hl hR hr hk hi
  go_enter Try.func46, Try.ntmps46
  go_wp2_with fail
  go_region
  generalize (w.setCell ⟨b.o, k, none⟩ (.int .i64 0)).drew = V at *
  clear c0 c1 c2 c3 c4 m0 m1 m2 m3 m4 f3 f4 fo co hk1
  go_wp2_with fail
  refine (ractive_any HA.out HL.out).mono ?_
  rintro e V1 ⟨rfl, hV1⟩
  obtain rfl := hV1.symm
  clear hV1
  by_cases h1 : 1 < Po.active L
  · have HS : Shut (Po.leaveS s L k = remS s k) := ⟨by unfold Po.leaveS; rw [if_pos h1]⟩
    have h11 : (1 : Int) < Po.active L := by omega
    clear h1
    go_wp2_with fail
    clear h11
    obtain ⟨c0, c1, c2, c3, c4⟩ := HA.out.drew.cells
    obtain ⟨g', c', hv', n0, n1, n2, n3, n4, _, _⟩ := HA.out.drew.mem i m HM.out
    obtain ⟨rfl, rfl⟩ : g = g' ∧ c = c' := by have e := HV.out.symm.trans hv'; cases e; exact ⟨rfl, rfl⟩
    rw [HK.out] at n4
    rw [hv'] at c2
    have hcall := rremove_any (w := V.drew) HA.out.drew.an HR.out HRM.out.1 (k : Int)
    obtain ⟨E, hE⟩ : ∃ E, remE s (k : Int) = E := ⟨_, rfl⟩
    rw [hE] at hcall
    refine wp_region_one (by kernel_rfl) [.pointer (some ⟨b.p, 0, none⟩), .pointer (some ⟨b.p, 0, none⟩), .pointer (some ⟨b.p, 1, none⟩), .pointer (some ⟨b.bk.p, 0, none⟩), .pointer (some ⟨b.p, 0, none⟩), .pointer (some ⟨b.p, 0, none⟩), .pointer (some ⟨b.p, 2, none⟩), .slice (some ⟨g, 0, none⟩) L.length c, .int .i64 (i : Int), .pointer (some ⟨g, i * 5, none⟩), .pointer (some ⟨g, i * 5 + 4, none⟩), .int .i64 (k : Int), .int .i64 E] 12 (fun u => ∃ v', AnAt hdR base u b.bk v' (remS s k) ∧ Went V.drew u b.bk v v') (by kernel_rfl) (by decide) ?op ?call ?fin
    case op =>
      intro iop o bx u ho hne hw hJ hS
      match iop, ho with
      | 0, ho =>
        obtain rfl := Option.some.inj ho
        obtain rfl := hw (by kernel_rfl)
        have d0 : bx.tmps.getD 0 undef = .pointer (some ⟨b.p, 0, none⟩) := hS.base 0 (by kernel_rfl)
        refine ⟨rfl, rests_value (c := .pointer (some ⟨b.p, 0, none⟩)) ?_⟩
        simp [execOp, Act.eval, d0]
      | 1, ho =>
        obtain rfl := Option.some.inj ho
        obtain rfl := hw (by kernel_rfl)
        have d20 : bx.tmps.getD 20 undef = .pointer (some ⟨b.p, 0, none⟩) := hS.dep 0 20 (by kernel_rfl) (by kernel_rfl)
        refine ⟨rfl, rests_value (c := .pointer (some ⟨b.p, 0, none⟩)) ?_⟩
        simp [execOp, Act.eval, d20]
      | 2, ho =>
        obtain rfl := Option.some.inj ho
        obtain rfl := hw (by kernel_rfl)
        have d21 : bx.tmps.getD 21 undef = .pointer (some ⟨b.p, 0, none⟩) := hS.dep 1 21 (by kernel_rfl) (by kernel_rfl)
        refine ⟨rfl, rests_value (c := .pointer (some ⟨b.p, 1, none⟩)) ?_⟩
        simp [Act.eval, d21, go_sem]
      | 3, ho =>
        obtain rfl := Option.some.inj ho
        obtain rfl := hw (by kernel_rfl)
        have d22 : bx.tmps.getD 22 undef = .pointer (some ⟨b.p, 1, none⟩) := hS.dep 2 22 (by kernel_rfl) (by kernel_rfl)
        have hl := c1
        refine ⟨rfl, rests_value (c := .pointer (some ⟨b.bk.p, 0, none⟩)) ?_⟩
        simp [Act.eval, d22, go_sem, hl]
      | 4, ho =>
        obtain rfl := Option.some.inj ho
        obtain rfl := hw (by kernel_rfl)
        have d0 : bx.tmps.getD 0 undef = .pointer (some ⟨b.p, 0, none⟩) := hS.base 0 (by kernel_rfl)
        refine ⟨rfl, rests_value (c := .pointer (some ⟨b.p, 0, none⟩)) ?_⟩
        simp [execOp, Act.eval, d0]
      | 5, ho =>
        obtain rfl := Option.some.inj ho
        obtain rfl := hw (by kernel_rfl)
        have d24 : bx.tmps.getD 24 undef = .pointer (some ⟨b.p, 0, none⟩) := hS.dep 4 24 (by kernel_rfl) (by kernel_rfl)
        refine ⟨rfl, rests_value (c := .pointer (some ⟨b.p, 0, none⟩)) ?_⟩
        simp [execOp, Act.eval, d24]
      | 6, ho =>
        obtain rfl := Option.some.inj ho
        obtain rfl := hw (by kernel_rfl)
        have d25 : bx.tmps.getD 25 undef = .pointer (some ⟨b.p, 0, none⟩) := hS.dep 5 25 (by kernel_rfl) (by kernel_rfl)
        refine ⟨rfl, rests_value (c := .pointer (some ⟨b.p, 2, none⟩)) ?_⟩
        simp [Act.eval, d25, go_sem]
      | 7, ho =>
        obtain rfl := Option.some.inj ho
        obtain rfl := hw (by kernel_rfl)
        have d26 : bx.tmps.getD 26 undef = .pointer (some ⟨b.p, 2, none⟩) := hS.dep 6 26 (by kernel_rfl) (by kernel_rfl)
        have hl := c2
        refine ⟨rfl, rests_value (c := .slice (some ⟨g, 0, none⟩) L.length c) ?_⟩
        simp [Act.eval, d26, go_sem, hl]
      | 8, ho =>
        obtain rfl := Option.some.inj ho
        obtain rfl := hw (by kernel_rfl)
        have d1 : bx.tmps.getD 1 undef = .int .i64 (i : Int) := hS.base 1 (by kernel_rfl)
        refine ⟨rfl, rests_value (c := .int .i64 (i : Int)) ?_⟩
        simp [execOp, Act.eval, d1]
      | 9, ho =>
        obtain rfl := Option.some.inj ho
        obtain rfl := hw (by kernel_rfl)
        have d27 : bx.tmps.getD 27 undef = .slice (some ⟨g, 0, none⟩) L.length c := hS.dep 7 27 (by kernel_rfl) (by kernel_rfl)
        have d28 : bx.tmps.getD 28 undef = .int .i64 (i : Int) := hS.dep 8 28 (by kernel_rfl) (by kernel_rfl)
        refine ⟨rfl, rests_value (c := .pointer (some ⟨g, i * 5, none⟩)) ?_⟩
        simp [Act.eval, d27, d28, go_sem, hi1]
      | 10, ho =>
        obtain rfl := Option.some.inj ho
        obtain rfl := hw (by kernel_rfl)
        have d29 : bx.tmps.getD 29 undef = .pointer (some ⟨g, i * 5, none⟩) := hS.dep 9 29 (by kernel_rfl) (by kernel_rfl)
        refine ⟨rfl, rests_value (c := .pointer (some ⟨g, i * 5 + 4, none⟩)) ?_⟩
        simp [Act.eval, d29, go_sem]
      | 11, ho =>
        obtain rfl := Option.some.inj ho
        obtain rfl := hw (by kernel_rfl)
        have d30 : bx.tmps.getD 30 undef = .pointer (some ⟨g, i * 5 + 4, none⟩) := hS.dep 10 30 (by kernel_rfl) (by kernel_rfl)
        have hl := n4
        refine ⟨rfl, rests_value (c := .int .i64 (k : Int)) ?_⟩
        simp [Act.eval, d30, go_sem, hl]
      | 12, _ => exact absurd rfl hne
      | n + 13, ho => exact absurd ho (by simp)
    case call =>
      intro o bx ho hS
      obtain rfl := Option.some.inj ho
      have d23 : bx.tmps.getD 23 undef = .pointer (some ⟨b.bk.p, 0, none⟩) := hS.dep 3 23 (by kernel_rfl) (by kernel_rfl)
      have d31 : bx.tmps.getD 31 undef = .int .i64 (k : Int) := hS.dep 11 31 (by kernel_rfl) (by kernel_rfl)
      refine ⟨rfl, yieldsY_call (f := 60) (args := #[.pointer (some ⟨b.bk.p, 0, none⟩), .int .i64 (k : Int)]) (u := _) ?_ ((hcall).mono fun e u' h => ⟨_, h.1, rfl, h.2⟩) (K := fun vv u' => vv = .int .i64 E ∧ (fun u => ∃ v', AnAt hdR base u b.bk v' (remS s k) ∧ Went V.drew u b.bk v v') u') (fun _ _ h => h)⟩
      simp [Act.eval, d23, d31, go_sem]
    case fin =>
      rintro u ⟨v', hA, hw⟩
      have HA2 : Shut _ := ⟨HA.out.drew.anchor hA hw⟩
      have HW2 : Shut _ := ⟨HW.out.drew.trans (PWent.anchor hw vL)⟩
      clear hA hw hcall hE c0 c1 c2 c3 c4 n0 n1 n2 n3 n4 hv' HA HW
      simp [putAll, dstAt, Act.put]
      obtain ⟨c0, c1, c2, c3, c4⟩ := HA2.out.cells
      obtain ⟨g', c', hv', n0, n1, n2, n3, n4, f3, f4⟩ := HA2.out.mem i m HM.out
      obtain ⟨rfl, rfl⟩ : g = g' ∧ c = c' := by have e := HV.out.symm.trans hv'; cases e; exact ⟨rfl, rfl⟩
      rw [hv'] at c2
      have HA3 : Shut _ := ⟨HA2.out.setMem hv' HM.out 4 (.int .i64 0) (by decide) (m' := Po.out m) rfl⟩
      have HW3 : Shut _ := ⟨HW2.out.cell (x := g) (by rw [hv']; exact mem_l b _ g _ c) (i * 5 + 4) (.int .i64 0)⟩
      clear hv' c0 c1 c3 c4 n0 n1 n2 n3 HA2 HW2
      go_wp2_with fail
      go_end0
      exact ⟨rfl, _, by rw [HS.out]; exact HA3.out, HW3.out⟩
  · have HS : Shut (Po.leaveS s L k = s) := ⟨by unfold Po.leaveS; rw [if_neg h1]⟩
    have h11 : decide ((1 : Int) < Po.active L) = false := by simp; omega
    have h12 : decide (1 < Po.active L) = false := by simpa using h1
    have hle : Po.active L ≤ 1 := by omega
    clear h1
    obtain ⟨c0, c1, c2, c3, c4⟩ := HA.out.cells
    obtain ⟨g', c', hv', n0, n1, n2, n3, n4, f3, f4⟩ := HA.out.mem i m HM.out
    obtain ⟨rfl, rfl⟩ : g = g' ∧ c = c' := by have e := HV.out.symm.trans hv'; cases e; exact ⟨rfl, rfl⟩
    rw [hv'] at c2
    have HA3 : Shut _ := ⟨HA.out.setMem hv' HM.out 4 (.int .i64 0) (by decide) (m' := Po.out m) rfl⟩
    have HW3 : Shut _ := ⟨HW.out.cell (x := g) (by rw [hv']; exact mem_l b _ g _ c) (i * 5 + 4) (.int .i64 0)⟩
    clear hv' c0 c1 c3 c4 n0 n1 n2 n3 HA HW
    go_wp2_with fail
    go_end0
    exact ⟨rfl, _, by rw [HS.out]; exact HA3.out, HW3.out⟩
end
end Go.Proofs.Ytckkdgifjgkoaaa

/- Drain of the reference of chapter 13. -/
namespace Go.Proofs.Ytckkdgifjgkoaaa
open Go.ChangeShapes Go.WideShapes Go.ChangeAt Go.RowKit An

namespace Po
theorem there_some (L : List Mem) (id : Int) (h : there L id = true) : ∃ m, L[place L id]? = some m ∧ (m.id : Int) = id ∧ place L id < L.length := by
  unfold there at h
  cases e : L[place L id]? with
  | none => rw [e] at h; cases h
  | some m => rw [e] at h; exact ⟨m, rfl, by simpa using h, (List.getElem?_eq_some_iff.1 e).1⟩
theorem active_set (m m' : Mem) : ∀ (L : List Mem) (i : Nat), L[i]? = some m → m'.st = m.st → active (L.set i m') = active L
  | [], i, h, _ => by simp at h
  | a :: L, 0, h, hs => by
    simp at h
    subst h
    unfold active
    rw [List.set_cons_zero, List.filter_cons, List.filter_cons, hs]
    split <;> simp
  | a :: L, i + 1, h, hs => by
    have ih := active_set m m' L i (by simpa using h) hs
    unfold active at ih ⊢
    rw [List.set_cons_succ, List.filter_cons, List.filter_cons]
    split
    · rw [List.length_cons, List.length_cons, ih]
    · exact ih
def off (m : Mem) : Mem := { m with bk := 0, st := 2 }
end Po
section
variable {base : Nat} {w : World} {key : ByteArray} {room : Nat} {b : RBk} {v vL : Value} {s : An} {L : List Mem} {own : Nat → Nat}
set_option maxRecDepth 100000 in
set_option maxHeartbeats 1000000 in
theorem rdrain_none (h : RAt base w key room b v vL s L own) (hl : L.length ≤ 1000000) (id : Int) (ht : Po.there L id = false) :
    Calls Try.prog 26 #[.pointer (some ⟨b.p, 0, none⟩), .int .i64 id] w fun e w' => e = .returned (.int .i64 19) ∧ ∃ n, w' = w.drewN n := by
  have hp := rplace_any h hl id
  rw [ht] at hp
  obtain ⟨p, hpp⟩ : ∃ p, Po.place L id = p := ⟨_, rfl⟩
  rw [hpp] at hp
  clear h hl ht hpp
  go_enter Try.func26, Try.ntmps26
  go_wp2_with fail
  refine hp.mono ?_
  rintro e w1 ⟨rfl, n, rfl⟩
  go_wp2_with fail
  go_ret
  exact ⟨rfl, n, rfl⟩
set_option maxRecDepth 100000 in
set_option maxHeartbeats 1000000 in
theorem rdrain_state (h : RAt base w key room b v vL s L own) (hl : L.length ≤ 1000000) (id : Int) (ht : Po.there L id = true) (m : Mem) (hm : L[Po.place L id]? = some m) (hs : m.st ≠ 1) :
    Calls Try.prog 26 #[.pointer (some ⟨b.p, 0, none⟩), .int .i64 id] w fun e w' => e = .returned (.int .i64 15) ∧ ∃ n, w' = w.drewN n := by
  have hp := rplace_any h hl id
  rw [ht] at hp
  obtain ⟨p, hpp⟩ : ∃ p, Po.place L id = p := ⟨_, rfl⟩
  rw [hpp] at hp hm
  have hi : p < L.length := (List.getElem?_eq_some_iff.1 hm).1
  have hi1 : (p : Int) < L.length := by omega
  have h2 : ((m.st : Int) == 1) = false := by rw [beq_eq_false_iff_ne]; omega
  have h3 : (m.st == 1) = false := by rw [beq_eq_false_iff_ne]; exact hs
  have HA : Shut _ := ⟨h⟩
  have HM : Shut (L[p]? = some m) := ⟨hm⟩
  clear h hl ht hpp hm hi hs
  go_enter Try.func26, Try.ntmps26
  go_wp2_with fail
  refine hp.mono ?_
  rintro e w1 ⟨rfl, n, rfl⟩
  have h := HA.out.drewN n
  obtain ⟨_, _, c2, _, _⟩ := h.cells
  obtain ⟨g, c, hv, _, _, _, m3, _, _, _⟩ := h.mem p m HM.out
  rw [hv] at c2
  clear h hp hv
  have HN : Shut (∃ n', w.drewN n = w.drewN n') := ⟨n, rfl⟩
  generalize w.drewN n = V at *
  go_wp2_with fail
  go_ret
  exact ⟨rfl, HN.out⟩
set_option maxRecDepth 100000 in
set_option maxHeartbeats 2000000 in
theorem rdrain_ok (h : RAt base w key room b v vL s L own) (hR : An.Reach room s) (hr : room ≤ 65536) (hl : L.length ≤ 1000000) (id : Int) (ht : Po.there L id = true) (m : Mem) (hm : L[Po.place L id]? = some m) (hs : m.st = 1) (hk : m.bk < room) :
    Calls Try.prog 26 #[.pointer (some ⟨b.p, 0, none⟩), .int .i64 id] w fun e w' => e = .returned (.int .i64 0) ∧
      ∃ v', RAt base w' key room b v' vL (Po.leaveS s L m.bk) (L.set (Po.place L id) (Po.off m)) (upd own m.bk 0) ∧ PWent w w' b v vL v' vL := by
  have hp := rplace_any h hl id
  rw [ht] at hp
  obtain ⟨p, hpp⟩ : ∃ p, Po.place L id = p := ⟨_, rfl⟩
  rw [hpp] at hp hm ⊢
  have hi : p < L.length := (List.getElem?_eq_some_iff.1 hm).1
  have hi1 : (p : Int) < L.length := by omega
  have HA : Shut _ := ⟨h⟩
  have HM : Shut (L[p]? = some m) := ⟨hm⟩
  have HL : Shut (L.length ≤ 1000000) := ⟨hl⟩
  have HR : Shut (An.Reach room s ∧ room ≤ 65536 ∧ m.bk < room) := ⟨hR, hr, hk⟩
  have HS : Shut (m.st = 1) := ⟨hs⟩
  clear h hl ht hpp hm hR hr hk
  go_enter Try.func26, Try.ntmps26
  go_wp2_with fail
  refine hp.mono ?_
  rintro e w1 ⟨rfl, n, rfl⟩
  have h := HA.out.drewN n
  have HA2 : Shut (RAt base (w.drewN n) key room b v vL s L own) := ⟨h⟩
  obtain ⟨_, _, c2, _, _⟩ := h.cells
  obtain ⟨g, c, hv, _, _, _, m3, _, _, _⟩ := h.mem p m HM.out
  have HV : Shut (vL = .slice (some ⟨g, 0, none⟩) L.length c) := ⟨hv⟩
  rw [hv] at c2
  rw [hs] at m3
  clear h hp hv
  have HW : Shut (PWent w (w.drewN n) b v vL v vL) := ⟨(PWent.refl w b v vL).drewN n⟩
  clear HA hs
  generalize w.drewN n = V at *
  go_wp2_with fail
  clear c2 m3
  refine (rleave_any HA2.out HR.out.1 HR.out.2.1 HL.out p m HM.out HR.out.2.2).mono ?_
  rintro e V1 ⟨rfl, v', hA, hw⟩
  have hm2 : (L.set p (Po.out m))[p]? = some (Po.out m) := by rw [List.getElem?_set_self hi]
  have hlen : (L.set p (Po.out m)).length = L.length := List.length_set
  obtain ⟨_, _, c2, _, _⟩ := hA.cells
  obtain ⟨g', c', hv', _, _, _, m3, _, f3, _⟩ := hA.mem p _ hm2
  have hv2 := hv'
  rw [hlen] at hv'
  obtain ⟨rfl, rfl⟩ : g = g' ∧ c = c' := by have e := HV.out.symm.trans hv'; cases e; exact ⟨rfl, rfl⟩
  rw [hv'] at c2
  have HA3 : Shut _ := ⟨hA.setMem hv2 hm2 3 (.int .i64 2) (by decide) (m' := Po.off m) rfl⟩
  have HW3 : Shut _ := ⟨(HW.out.trans hw).cell (x := g) (by rw [hv']; exact mem_l b _ g _ c) (p * 5 + 3) (.int .i64 2)⟩
  clear hA hw HA2 HW hm2 hlen hv' hv2 HV
  go_wp2_with fail
  go_ret
  exact ⟨rfl, v', by have h := HA3.out; rw [List.set_set] at h; exact h, HW3.out⟩
end
end Go.Proofs.Ytckkdgifjgkoaaa

/- Remove of the reference of chapter 13. -/
namespace Go.Proofs.Ytckkdgifjgkoaaa
open Go.ChangeShapes Go.WideShapes Go.ChangeAt Go.RowKit An

theorem info_mem : (Try.prog.info? 48).map (fun i => (i.zero, i.size, i.bytes)) = some (some (.agg #[.int .i64 0, .int .u32 0, .int .i64 0, .int .i64 0, .int .i64 0]), 5, 40) := by kernel_rfl
theorem mcells_drop (L : List Mem) (i : Nat) : mcells (L.drop i) = (mcells L).drop (i * 5) := by
  induction L generalizing i with
  | nil => simp [mcells]
  | cons a L ih =>
    cases i with
    | zero => simp
    | succ i =>
      show mcells (L.drop i) = (Mem.cells a ++ mcells L).drop ((i + 1) * 5)
      have e : (i + 1) * 5 = (Mem.cells a).length + i * 5 := by show _ = 5 + _; omega
      rw [ih, e, List.drop_append, List.drop_eq_nil_of_le («as» := Mem.cells a) (by omega), List.nil_append, Nat.add_sub_cancel_left]
theorem mcells_one : ∀ (L : List Mem) (u : Value), u ∈ mcells L → u.oneCell' = true := by
  intro L u hu
  unfold mcells at hu
  rw [List.mem_flatMap] at hu
  obtain ⟨m, _, h⟩ := hu
  unfold Mem.cells at h
  simp only [List.mem_cons, List.not_mem_nil, or_false] at h
  rcases h with rfl | rfl | rfl | rfl | rfl <;> rfl
section
variable {base : Nat} {W : World} {key : ByteArray} {room : Nat} {b : RBk} {v vL : Value} {s : An} {L : List Mem} {own : Nat → Nat}
theorem RAt.cell_at (h : RAt base W key room b v vL s L own) {g n c : Nat} (hv : vL = .slice (some ⟨g, 0, none⟩) n c) (j : Nat) (u : Value) (hj : (mcells L)[j]? = some u) : W.cell? ⟨g, j, none⟩ = some u := by
  have hc := h.row.cells (g := g) (by rw [hv]; rfl) j u hj
  rw [show (⟨g, 0, none⟩ : Addr).add j = ⟨g, j, none⟩ by unfold Addr.add; split <;> simp_all] at hc
  exact hc
theorem RAt.news_take (h : RAt base W key room b v vL s L own) {g n c : Nat} (hv : vL = .slice (some ⟨g, 0, none⟩) n c) (p : Nat) : ∀ j u, (mcells (L.take p))[j]? = some u → W.cell? ((⟨g, 0, none⟩ : Addr).add j) = some u := by
  intro j u hj
  rw [show (⟨g, 0, none⟩ : Addr).add j = ⟨g, j, none⟩ by unfold Addr.add; split <;> simp_all]
  rw [mcells_take, List.getElem?_take] at hj
  split at hj
  · exact h.cell_at hv j u hj
  · cases hj
theorem RAt.news_drop (h : RAt base W key room b v vL s L own) {g n c : Nat} (hv : vL = .slice (some ⟨g, 0, none⟩) n c) (p : Nat) : ∀ j u, (mcells (L.drop p))[j]? = some u → W.cell? ((⟨g, p * 5, none⟩ : Addr).add j) = some u := by
  intro j u hj
  rw [show (⟨g, p * 5, none⟩ : Addr).add j = ⟨g, p * 5 + j, none⟩ by unfold Addr.add; split <;> simp_all]
  rw [mcells_drop, List.getElem?_drop] at hj
  exact h.cell_at hv _ u hj
theorem RAt.room_at (h : RAt base W key room b v vL s L own) {g n c : Nat} (hv : vL = .slice (some ⟨g, 0, none⟩) n c) : L.length ≤ c := by
  rcases h.row.2 with ⟨h1, _⟩ | ⟨g', cap, cur, h1, _, _, h2, _⟩
  · rw [hv] at h1; cases h1
  · rw [hv] at h1; cases h1; exact h2
theorem RAt.room_max (h : RAt base W key room b v vL s L own) {g n c : Nat} (hv : vL = .slice (some ⟨g, 0, none⟩) n c) : c ≤ maxLen := by
  rcases h.row.2 with ⟨h1, _⟩ | ⟨g', cap, cur, h1, _, _, h2, h3, _⟩
  · rw [hv] at h1; cases h1
  · rw [hv] at h1; cases h1; exact h3
end
theorem erase_set : ∀ (L : List Mem) (p : Nat) (x : Mem), (L.set p x).eraseIdx p = L.eraseIdx p
  | [], _, _ => rfl
  | a :: L, 0, x => rfl
  | a :: L, p + 1, x => by show a :: (L.set p x).eraseIdx p = a :: L.eraseIdx p; rw [erase_set L p x]
theorem own_mono {w : World} {base base' : Nat} {e : TypeId} {size : Nat} {v : Value} {n : Nat} {xs : List Value} (h : w.ownsRow base e size v n xs) (hb : base' ≤ base) : w.ownsRow base' e size v n xs := by
  refine ⟨h.1, ?_⟩
  rcases h.2 with h | ⟨g, cap, cur, h1, h2, h3⟩
  · exact .inl h
  · exact .inr ⟨g, cap, cur, h1, Nat.le_trans hb h2, h3⟩
theorem grown_below {w W W' : World} {row : Option Nat} (hw : Below w.heap.size w W) (hg : W.grownBy W' row) (hr : ∀ k, row = some k → w.heap.size ≤ k) : Below w.heap.size w W' := hw.grown hg hw.size hr
section
variable {base : Nat} {w : World} {key : ByteArray} {room : Nat} {b : RBk} {v vL : Value} {s : An} {L : List Mem} {own : Nat → Nat}
set_option maxRecDepth 100000 in
set_option maxHeartbeats 1000000 in
theorem rgone_none (h : RAt base w key room b v vL s L own) (hl : L.length ≤ 1000000) (id : Int) (ht : Po.there L id = false) :
    Calls Try.prog 27 #[.pointer (some ⟨b.p, 0, none⟩), .int .i64 id] w fun e w' => e = .returned (.int .i64 19) ∧ ∃ n, w' = w.drewN n := by
  have hp := rplace_any h hl id
  rw [ht] at hp
  obtain ⟨p, hpp⟩ : ∃ p, Po.place L id = p := ⟨_, rfl⟩
  rw [hpp] at hp
  clear h hl ht hpp
  go_enter Try.func27, Try.ntmps27
  go_wp2_with fail
  refine hp.mono ?_
  rintro e w1 ⟨rfl, n, rfl⟩
  go_wp2_with fail
  go_ret
  exact ⟨rfl, n, rfl⟩
set_option maxRecDepth 100000 in
set_option maxHeartbeats 4000000 in
theorem rgone_idle (h : RAt base w key room b v vL s L own) (hl : L.length ≤ 1000000) (id : Int) (ht : Po.there L id = true) (m : Mem) (hm : L[Po.place L id]? = some m) (hs : m.st ≠ 1) :
    Calls Try.prog 27 #[.pointer (some ⟨b.p, 0, none⟩), .int .i64 id] w fun e w' => e = .returned (.int .i64 0) ∧
      ∃ vL', RAt base w' key room b v vL' s (L.eraseIdx (Po.place L id)) own ∧ PWent w w' b v vL v vL' := by
  have hp := rplace_any h hl id
  rw [ht] at hp
  obtain ⟨p, hpp⟩ : ∃ p, Po.place L id = p := ⟨_, rfl⟩
  rw [hpp] at hp hm ⊢
  have hi : p < L.length := (List.getElem?_eq_some_iff.1 hm).1
  have hi1 : (p : Int) < L.length := by omega
  have HA : Shut _ := ⟨h⟩
  have HM : Shut (L[p]? = some m) := ⟨hm⟩
  have HL : Shut (L.length ≤ 1000000) := ⟨hl⟩
  have h2 : ((m.st : Int) == 1) = false := by rw [beq_eq_false_iff_ne]; omega
  have h3 : (m.st == 1) = false := by rw [beq_eq_false_iff_ne]; exact hs
  clear h hl ht hpp hm hs
  go_enter Try.func27, Try.ntmps27
  go_wp2_with fail
  refine hp.mono ?_
  rintro e w1 ⟨rfl, n, rfl⟩
  have h := HA.out.drewN n
  have HA2 : Shut (RAt base (w.drewN n) key room b v vL s L own) := ⟨h⟩
  have HW2 : Shut (PWent w (w.drewN n) b v vL v vL) := ⟨(PWent.refl w b v vL).drewN n⟩
  clear h hp HA
  generalize w.drewN n = V at *
  have HL2 := HL
  have HMX := HM
  have hi2 := hi
  obtain ⟨_, _, c2, _, _⟩ := HA2.out.cells
  obtain ⟨g, c, hv, _, _, _, m3, _, _, _⟩ := HA2.out.mem p _ HMX.out
  rw [hv] at c2
  have hcap := HA2.out.room_at hv
  have hcm := HA2.out.room_max hv
  have HV : Shut (vL = .slice (some ⟨g, 0, none⟩) L.length c) := ⟨hv⟩
  have hnt := HA2.out.news_take hv p
  have hnd := HA2.out.news_drop hv (p + 1)
  have hlt : (mcells (L.take p)).length = p * 5 := by rw [mcells_length, List.length_take, Nat.min_eq_left (by omega)]
  have hld : (mcells (L.drop (p + 1))).length = (L.length - (p + 1)) * 5 := by rw [mcells_length, List.length_drop]
  have ho1 := mcells_one (L.take p)
  have ho2 := mcells_one (L.drop (p + 1))
  have HE : Shut (mcells (L.take p) ++ mcells (L.drop (p + 1)) = mcells (L.eraseIdx p)) := ⟨by rw [← mcells_append, List.eraseIdx_eq_take_drop_succ]⟩
  have HLE : Shut ((L.eraseIdx p).length = p + (L.length - (p + 1))) := ⟨by rw [List.length_eraseIdx, if_pos hi2]; omega⟩
  generalize mcells (L.take p) = X1 at *
  generalize mcells (L.drop (p + 1)) = X2 at *
  have HT : Shut ((∀ j u, X1[j]? = some u → V.cell? ((⟨g, 0, none⟩ : Addr).add j) = some u) ∧ X1.length = p * 5 ∧ ∀ u ∈ X1, u.oneCell' = true) := ⟨hnt, hlt, ho1⟩
  have HD : Shut ((∀ j u, X2[j]? = some u → V.cell? ((⟨g, (p + 1) * 5, none⟩ : Addr).add j) = some u) ∧ X2.length = (L.length - (p + 1)) * 5 ∧ ∀ u ∈ X2, u.oneCell' = true) := ⟨hnd, hld, ho2⟩
  have HC : Shut (L.length ≤ c ∧ c ≤ maxLen ∧ p < L.length ∧ L.length ≤ 1000000) := ⟨hcap, hcm, hi2, HL2.out⟩
  have hpc : (p : Int) ≤ c := by omega
  have hpc2 : p ≤ c := by omega
  have hpl2 : p + 1 ≤ L.length := by omega
  have hlc2 : L.length ≤ c := by omega
  have hpl : ((p : Int) + 1) ≤ L.length := by omega
  have hlc : (L.length : Int) ≤ c := by omega
  have hp1 : (p : Int) ≤ 1000000 := by have := HL2.out; omega
  have hl1 : (L.length : Int) ≤ 1000000 := by have := HL2.out; omega
  clear hv hcap hcm hnt hnd hlt hld ho1 ho2 hi2
  obtain ⟨i0, hii, hz0, hz1, hz2⟩ := info_parts info_mem
  go_wp2_with (at_builtin; refine wpList_append_own _ rfl _ _ 43 rfl V.heap.size 48 i0 (.agg #[.int .i64 0, .int .u32 0, .int .i64 0, .int .i64 0, .int .i64 0]) 5 40 Try.underlying43 hii hz0 hz1 hz2 rfl (by decide) _ _ _ rfl (World.ownsRow_nil _ _ _ _) ⟨g, 0, none⟩ p c X1 rfl ?c0 ?c1 ?c2 ?c3 ?c4 ?c5 ?_)
  case c0 => exact HT.out.2.1
  case c1 => exact HT.out.1
  case c2 => exact HT.out.2.2
  case c3 => have := HC.out; omega
  case c4 => have := HC.out; omega
  case c5 => exact Nat.le_refl _
  intro v1 w1 hown1 hgrow1 _
  have hb1 : Below V.heap.size V w1 := grown_below (Below.refl _ _) hgrow1 (fun k e => by cases e)
  have HO1 : Shut (w1.ownsRow V.heap.size 48 5 v1 p X1) := ⟨by first | exact hown1 | simpa using hown1⟩
  have HB1 : Shut (Below V.heap.size V w1) := ⟨hb1⟩
  have HN2 : Shut (∀ j u, X2[j]? = some u → w1.cell? ((⟨g, (p + 1) * 5, none⟩ : Addr).add j) = some u) := ⟨fun j u hj => by
    have h1 := HD.out.1 j u hj
    exact (World.cell?_of_block (hb1.block _ (World.block_lt_of_cell? V _ h1))).trans h1⟩
  have c2 : w1.cell? ⟨b.p, 2, none⟩ = some (.slice (some ⟨g, 0, none⟩) L.length c) := by
    have h1 := (HA2.out.on hb1).cells.2.2.1
    rw [HV.out] at h1
    exact h1
  have g2 := (HA2.out.on hb1).head.free 2
  clear hgrow1 hb1 hown1
  by_cases hcp : c = p + 1
  · subst hcp
    have hLp : L.length = p + 1 := by have := HC.out; omega
    have HX2 : Shut (X2 = []) := ⟨List.eq_nil_of_length_eq_zero (by rw [HD.out.2.1]; omega)⟩
    have HN3 : Shut (∀ j u, X2[j]? = some u → w1.cell? ((⟨g, 0, none⟩ : Addr).add j) = some u) := ⟨fun j u hj => by rw [HX2.out] at hj; simp at hj⟩
    clear hLp
    go_wp2_with (at_builtin; refine wpList_append_own _ rfl _ _ 43 rfl V.heap.size 48 i0 (.agg #[.int .i64 0, .int .u32 0, .int .i64 0, .int .i64 0, .int .i64 0]) 5 40 Try.underlying43 hii hz0 hz1 hz2 rfl (by decide) _ _ _ rfl HO1.out ⟨g, 0, none⟩ 0 0 X2 ?cx ?c0 ?c1 ?c2 ?c3 ?c4 ?c5 ?_)
    case cx => first | rfl | (simp; done) | (simp; omega)
    case c0 => first | exact HD.out.2.1 | (rw [HD.out.2.1]; have := HC.out; omega)
    case c1 => exact HN3.out
    case c2 => exact HD.out.2.2
    case c3 => have := HC.out; omega
    case c4 => have := HC.out; omega
    case c5 => exact HB1.out.size
    intro v2 w2 hown2 hgrow2 _
    have hb2 : Below V.heap.size V w2 := grown_below HB1.out hgrow2 (fun k e => (HO1.out.lt k e).1)
    have hown3 : w2.ownsRow V.heap.size 48 5 v2 (L.eraseIdx p).length (mcells (L.eraseIdx p)) := by rw [HLE.out, ← HE.out]; first | exact hown2 | (have e : p + (L.length - (p + 1)) = p := (by have := HC.out; omega); rw [e]; exact hown2)
    have hnew : ∀ x, v2.ownBlock = some x → V.heap.size ≤ x := fun x hx => (hown2.lt x hx).1
    have HA3 : Shut _ := ⟨HA2.out.setRow hb2 (own_mono hown3 (by have := (HA2.out.lt b.p (mem_p b _ _)); omega)) hnew⟩
    have HW3 : Shut _ := ⟨HW2.out.trans (PWent.row hb2 b _ vL hnew)⟩
    have hr2 := (HA2.out.on hb2).head
    have d2 : w2.cell? ⟨b.p, 2, none⟩ = some vL := hr2.cell 2 _ rfl
    have f2 := hr2.free 2
    have hone : v2.oneCell' = true := by
      rcases hown2.2 with ⟨h1, _⟩ | ⟨g', cap, cur, h1, _⟩ <;> rw [h1] <;> rfl
    obtain ⟨a2, n2, k2, hv2⟩ : ∃ a2 n2 k2, v2 = .slice a2 n2 k2 := by
      rcases hown2.2 with ⟨h1, _⟩ | ⟨g', cap, cur, h1, _⟩
      · exact ⟨_, _, _, h1⟩
      · exact ⟨_, _, _, h1⟩
    subst hv2
    clear hown2 hgrow2 hb2 hown3 hnew hr2 hone HO1 HB1 HN3 HT HD HE HLE HA2 HW2 c2 g2 hpc hpl hlc hp1 hl1 hpc2 hpl2 hlc2
    go_wp2_with fail
    go_ret
    exact ⟨rfl, _, HA3.out, HW3.out⟩
  · go_wp2_with (at_builtin; refine wpList_append_own _ rfl _ _ 43 rfl V.heap.size 48 i0 (.agg #[.int .i64 0, .int .u32 0, .int .i64 0, .int .i64 0, .int .i64 0]) 5 40 Try.underlying43 hii hz0 hz1 hz2 rfl (by decide) _ _ _ rfl HO1.out ⟨g, (p + 1) * 5, none⟩ (L.length - (p + 1)) (c - (p + 1)) X2 ?cx ?c0 ?c1 ?c2 ?c3 ?c4 ?c5 ?_)
    case cx => first | rfl | (simp; done) | (simp; omega)
    case c0 => first | exact HD.out.2.1 | (rw [HD.out.2.1]; have := HC.out; omega)
    case c1 => exact HN2.out
    case c2 => exact HD.out.2.2
    case c3 => have := HC.out; omega
    case c4 => have := HC.out; omega
    case c5 => exact HB1.out.size
    intro v2 w2 hown2 hgrow2 _
    have hb2 : Below V.heap.size V w2 := grown_below HB1.out hgrow2 (fun k e => (HO1.out.lt k e).1)
    have hown3 : w2.ownsRow V.heap.size 48 5 v2 (L.eraseIdx p).length (mcells (L.eraseIdx p)) := by rw [HLE.out, ← HE.out]; first | exact hown2 | (have e : p + (L.length - (p + 1)) = p := (by have := HC.out; omega); rw [e]; exact hown2)
    have hnew : ∀ x, v2.ownBlock = some x → V.heap.size ≤ x := fun x hx => (hown2.lt x hx).1
    have HA3 : Shut _ := ⟨HA2.out.setRow hb2 (own_mono hown3 (by have := (HA2.out.lt b.p (mem_p b _ _)); omega)) hnew⟩
    have HW3 : Shut _ := ⟨HW2.out.trans (PWent.row hb2 b _ vL hnew)⟩
    have hr2 := (HA2.out.on hb2).head
    have d2 : w2.cell? ⟨b.p, 2, none⟩ = some vL := hr2.cell 2 _ rfl
    have f2 := hr2.free 2
    have hone : v2.oneCell' = true := by
      rcases hown2.2 with ⟨h1, _⟩ | ⟨g', cap, cur, h1, _⟩ <;> rw [h1] <;> rfl
    obtain ⟨a2, n2, k2, hv2⟩ : ∃ a2 n2 k2, v2 = .slice a2 n2 k2 := by
      rcases hown2.2 with ⟨h1, _⟩ | ⟨g', cap, cur, h1, _⟩
      · exact ⟨_, _, _, h1⟩
      · exact ⟨_, _, _, h1⟩
    subst hv2
    clear hown2 hgrow2 hb2 hown3 hnew hr2 hone HO1 HB1 HN2 HT HD HE HLE HA2 HW2 c2 g2 hpc hpl hlc hp1 hl1 hpc2 hpl2 hlc2
    go_wp2_with fail
    go_ret
    exact ⟨rfl, _, HA3.out, HW3.out⟩
set_option maxRecDepth 100000 in
set_option maxHeartbeats 4000000 in
theorem rgone_ok (h : RAt base w key room b v vL s L own) (hR : An.Reach room s) (hr : room ≤ 65536) (hl : L.length ≤ 1000000) (id : Int) (ht : Po.there L id = true) (m : Mem) (hm : L[Po.place L id]? = some m) (hs : m.st = 1) (hk : m.bk < room) :
    Calls Try.prog 27 #[.pointer (some ⟨b.p, 0, none⟩), .int .i64 id] w fun e w' => e = .returned (.int .i64 0) ∧
      ∃ v' vL', RAt base w' key room b v' vL' (Po.leaveS s L m.bk) (L.eraseIdx (Po.place L id)) (upd own m.bk 0) ∧ PWent w w' b v vL v' vL' := by
  have hp := rplace_any h hl id
  rw [ht] at hp
  obtain ⟨p, hpp⟩ : ∃ p, Po.place L id = p := ⟨_, rfl⟩
  rw [hpp] at hp hm ⊢
  have hi : p < L.length := (List.getElem?_eq_some_iff.1 hm).1
  have hi1 : (p : Int) < L.length := by omega
  have HA : Shut _ := ⟨h⟩
  have HM : Shut (L[p]? = some m) := ⟨hm⟩
  have HL : Shut (L.length ≤ 1000000) := ⟨hl⟩
  have HR : Shut (An.Reach room s ∧ room ≤ 65536 ∧ m.bk < room) := ⟨hR, hr, hk⟩
  have HF : Shut ((L.set p (Po.out m)).eraseIdx p = L.eraseIdx p) := ⟨erase_set L p _⟩
  have HMX : Shut ((L.set p (Po.out m))[p]? = some (Po.out m)) := ⟨List.getElem?_set_self hi⟩
  have HL2 : Shut ((L.set p (Po.out m)).length ≤ 1000000) := ⟨by rw [List.length_set]; exact hl⟩
  have HI2 : Shut (p < (L.set p (Po.out m)).length) := ⟨by rw [List.length_set]; exact hi⟩
  clear h hl ht hpp hm hR hr hk
  go_enter Try.func27, Try.ntmps27
  go_wp2_with fail
  refine hp.mono ?_
  rintro e w1 ⟨rfl, n, rfl⟩
  have h := HA.out.drewN n
  have HA2 : Shut (RAt base (w.drewN n) key room b v vL s L own) := ⟨h⟩
  have HW2 : Shut (PWent w (w.drewN n) b v vL v vL) := ⟨(PWent.refl w b v vL).drewN n⟩
  obtain ⟨_, _, c2, _, _⟩ := h.cells
  obtain ⟨g0, c0, hv0, _, _, _, m3, _, _, _⟩ := h.mem p m HM.out
  rw [hv0] at c2
  rw [hs] at m3
  clear h hp hv0 HA hs
  generalize w.drewN n = V0 at *
  go_wp2_with fail
  clear c2 m3
  refine (rleave_any HA2.out HR.out.1 HR.out.2.1 HL.out p m HM.out HR.out.2.2).mono ?_
  rintro e V ⟨rfl, v', hA, hw⟩
  have HW3 : Shut _ := ⟨HW2.out.trans hw⟩
  generalize L.set p (Po.out m) = L1 at *
  have HA3 : Shut _ := ⟨hA⟩
  generalize Po.out m = m1 at *
  have hi2 := HI2.out
  clear hA hw HA2 HW2 HM HL HI2 hi hi1
  obtain ⟨_, _, c2, _, _⟩ := HA3.out.cells
  obtain ⟨g, c, hv, _, _, _, m3, _, _, _⟩ := HA3.out.mem p _ HMX.out
  rw [hv] at c2
  have hcap := HA3.out.room_at hv
  have hcm := HA3.out.room_max hv
  have HV : Shut (vL = .slice (some ⟨g, 0, none⟩) L1.length c) := ⟨hv⟩
  have hnt := HA3.out.news_take hv p
  have hnd := HA3.out.news_drop hv (p + 1)
  have hlt : (mcells (L1.take p)).length = p * 5 := by rw [mcells_length, List.length_take, Nat.min_eq_left (by omega)]
  have hld : (mcells (L1.drop (p + 1))).length = (L1.length - (p + 1)) * 5 := by rw [mcells_length, List.length_drop]
  have ho1 := mcells_one (L1.take p)
  have ho2 := mcells_one (L1.drop (p + 1))
  have HE : Shut (mcells (L1.take p) ++ mcells (L1.drop (p + 1)) = mcells (L1.eraseIdx p)) := ⟨by rw [← mcells_append, List.eraseIdx_eq_take_drop_succ]⟩
  have HLE : Shut ((L1.eraseIdx p).length = p + (L1.length - (p + 1))) := ⟨by rw [List.length_eraseIdx, if_pos hi2]; omega⟩
  generalize mcells (L1.take p) = X1 at *
  generalize mcells (L1.drop (p + 1)) = X2 at *
  have HT : Shut ((∀ j u, X1[j]? = some u → V.cell? ((⟨g, 0, none⟩ : Addr).add j) = some u) ∧ X1.length = p * 5 ∧ ∀ u ∈ X1, u.oneCell' = true) := ⟨hnt, hlt, ho1⟩
  have HD : Shut ((∀ j u, X2[j]? = some u → V.cell? ((⟨g, (p + 1) * 5, none⟩ : Addr).add j) = some u) ∧ X2.length = (L1.length - (p + 1)) * 5 ∧ ∀ u ∈ X2, u.oneCell' = true) := ⟨hnd, hld, ho2⟩
  have HC : Shut (L1.length ≤ c ∧ c ≤ maxLen ∧ p < L1.length ∧ L1.length ≤ 1000000) := ⟨hcap, hcm, hi2, HL2.out⟩
  have hpc : (p : Int) ≤ c := by omega
  have hpc2 : p ≤ c := by omega
  have hpl2 : p + 1 ≤ L1.length := by omega
  have hlc2 : L1.length ≤ c := by omega
  have hpl : ((p : Int) + 1) ≤ L1.length := by omega
  have hlc : (L1.length : Int) ≤ c := by omega
  have hp1 : (p : Int) ≤ 1000000 := by have := HL2.out; omega
  have hl1 : (L1.length : Int) ≤ 1000000 := by have := HL2.out; omega
  clear hv hcap hcm hnt hnd hlt hld ho1 ho2 hi2
  obtain ⟨i0, hii, hz0, hz1, hz2⟩ := info_parts info_mem
  go_wp2_with (at_builtin; refine wpList_append_own _ rfl _ _ 43 rfl V.heap.size 48 i0 (.agg #[.int .i64 0, .int .u32 0, .int .i64 0, .int .i64 0, .int .i64 0]) 5 40 Try.underlying43 hii hz0 hz1 hz2 rfl (by decide) _ _ _ rfl (World.ownsRow_nil _ _ _ _) ⟨g, 0, none⟩ p c X1 rfl ?c0 ?c1 ?c2 ?c3 ?c4 ?c5 ?_)
  case c0 => exact HT.out.2.1
  case c1 => exact HT.out.1
  case c2 => exact HT.out.2.2
  case c3 => have := HC.out; omega
  case c4 => have := HC.out; omega
  case c5 => exact Nat.le_refl _
  intro v1 w1 hown1 hgrow1 _
  have hb1 : Below V.heap.size V w1 := grown_below (Below.refl _ _) hgrow1 (fun k e => by cases e)
  have HO1 : Shut (w1.ownsRow V.heap.size 48 5 v1 p X1) := ⟨by first | exact hown1 | simpa using hown1⟩
  have HB1 : Shut (Below V.heap.size V w1) := ⟨hb1⟩
  have HN2 : Shut (∀ j u, X2[j]? = some u → w1.cell? ((⟨g, (p + 1) * 5, none⟩ : Addr).add j) = some u) := ⟨fun j u hj => by
    have h1 := HD.out.1 j u hj
    exact (World.cell?_of_block (hb1.block _ (World.block_lt_of_cell? V _ h1))).trans h1⟩
  have c2 : w1.cell? ⟨b.p, 2, none⟩ = some (.slice (some ⟨g, 0, none⟩) L1.length c) := by
    have h1 := (HA3.out.on hb1).cells.2.2.1
    rw [HV.out] at h1
    exact h1
  have g2 := (HA3.out.on hb1).head.free 2
  clear hgrow1 hb1 hown1
  by_cases hcp : c = p + 1
  · subst hcp
    have hLp : L1.length = p + 1 := by have := HC.out; omega
    have HX2 : Shut (X2 = []) := ⟨List.eq_nil_of_length_eq_zero (by rw [HD.out.2.1]; omega)⟩
    have HN3 : Shut (∀ j u, X2[j]? = some u → w1.cell? ((⟨g, 0, none⟩ : Addr).add j) = some u) := ⟨fun j u hj => by rw [HX2.out] at hj; simp at hj⟩
    clear hLp
    go_wp2_with (at_builtin; refine wpList_append_own _ rfl _ _ 43 rfl V.heap.size 48 i0 (.agg #[.int .i64 0, .int .u32 0, .int .i64 0, .int .i64 0, .int .i64 0]) 5 40 Try.underlying43 hii hz0 hz1 hz2 rfl (by decide) _ _ _ rfl HO1.out ⟨g, 0, none⟩ 0 0 X2 ?cx ?c0 ?c1 ?c2 ?c3 ?c4 ?c5 ?_)
    case cx => first | rfl | (simp; done) | (simp; omega)
    case c0 => first | exact HD.out.2.1 | (rw [HD.out.2.1]; have := HC.out; omega)
    case c1 => exact HN3.out
    case c2 => exact HD.out.2.2
    case c3 => have := HC.out; omega
    case c4 => have := HC.out; omega
    case c5 => exact HB1.out.size
    intro v2 w2 hown2 hgrow2 _
    have hb2 : Below V.heap.size V w2 := grown_below HB1.out hgrow2 (fun k e => (HO1.out.lt k e).1)
    have hown3 : w2.ownsRow V.heap.size 48 5 v2 (L1.eraseIdx p).length (mcells (L1.eraseIdx p)) := by rw [HLE.out, ← HE.out]; first | exact hown2 | (have e : p + (L1.length - (p + 1)) = p := (by have := HC.out; omega); rw [e]; exact hown2)
    have hnew : ∀ x, v2.ownBlock = some x → V.heap.size ≤ x := fun x hx => (hown2.lt x hx).1
    have HA4 : Shut _ := ⟨HA3.out.setRow hb2 (own_mono hown3 (by have := (HA3.out.lt b.p (mem_p b _ _)); omega)) hnew⟩
    have HW4 : Shut _ := ⟨HW3.out.trans (PWent.row hb2 b _ vL hnew)⟩
    have hr2 := (HA3.out.on hb2).head
    have d2 : w2.cell? ⟨b.p, 2, none⟩ = some vL := hr2.cell 2 _ rfl
    have f2 := hr2.free 2
    have hone : v2.oneCell' = true := by
      rcases hown2.2 with ⟨h1, _⟩ | ⟨g', cap, cur, h1, _⟩ <;> rw [h1] <;> rfl
    obtain ⟨a2, n2, k2, hv2⟩ : ∃ a2 n2 k2, v2 = .slice a2 n2 k2 := by
      rcases hown2.2 with ⟨h1, _⟩ | ⟨g', cap, cur, h1, _⟩
      · exact ⟨_, _, _, h1⟩
      · exact ⟨_, _, _, h1⟩
    subst hv2
    clear hown2 hgrow2 hb2 hown3 hnew hr2 hone HO1 HB1 HN3 HT HD HE HLE HA3 HW3 c2 g2 hpc hpl hlc hp1 hl1 hpc2 hpl2 hlc2
    go_wp2_with fail
    go_ret
    exact ⟨rfl, _, _, by rw [← HF.out]; exact HA4.out, HW4.out⟩
  · go_wp2_with (at_builtin; refine wpList_append_own _ rfl _ _ 43 rfl V.heap.size 48 i0 (.agg #[.int .i64 0, .int .u32 0, .int .i64 0, .int .i64 0, .int .i64 0]) 5 40 Try.underlying43 hii hz0 hz1 hz2 rfl (by decide) _ _ _ rfl HO1.out ⟨g, (p + 1) * 5, none⟩ (L1.length - (p + 1)) (c - (p + 1)) X2 ?cx ?c0 ?c1 ?c2 ?c3 ?c4 ?c5 ?_)
    case cx => first | rfl | (simp; done) | (simp; omega)
    case c0 => first | exact HD.out.2.1 | (rw [HD.out.2.1]; have := HC.out; omega)
    case c1 => exact HN2.out
    case c2 => exact HD.out.2.2
    case c3 => have := HC.out; omega
    case c4 => have := HC.out; omega
    case c5 => exact HB1.out.size
    intro v2 w2 hown2 hgrow2 _
    have hb2 : Below V.heap.size V w2 := grown_below HB1.out hgrow2 (fun k e => (HO1.out.lt k e).1)
    have hown3 : w2.ownsRow V.heap.size 48 5 v2 (L1.eraseIdx p).length (mcells (L1.eraseIdx p)) := by rw [HLE.out, ← HE.out]; first | exact hown2 | (have e : p + (L1.length - (p + 1)) = p := (by have := HC.out; omega); rw [e]; exact hown2)
    have hnew : ∀ x, v2.ownBlock = some x → V.heap.size ≤ x := fun x hx => (hown2.lt x hx).1
    have HA4 : Shut _ := ⟨HA3.out.setRow hb2 (own_mono hown3 (by have := (HA3.out.lt b.p (mem_p b _ _)); omega)) hnew⟩
    have HW4 : Shut _ := ⟨HW3.out.trans (PWent.row hb2 b _ vL hnew)⟩
    have hr2 := (HA3.out.on hb2).head
    have d2 : w2.cell? ⟨b.p, 2, none⟩ = some vL := hr2.cell 2 _ rfl
    have f2 := hr2.free 2
    have hone : v2.oneCell' = true := by
      rcases hown2.2 with ⟨h1, _⟩ | ⟨g', cap, cur, h1, _⟩ <;> rw [h1] <;> rfl
    obtain ⟨a2, n2, k2, hv2⟩ : ∃ a2 n2 k2, v2 = .slice a2 n2 k2 := by
      rcases hown2.2 with ⟨h1, _⟩ | ⟨g', cap, cur, h1, _⟩
      · exact ⟨_, _, _, h1⟩
      · exact ⟨_, _, _, h1⟩
    subst hv2
    clear hown2 hgrow2 hb2 hown3 hnew hr2 hone HO1 HB1 HN2 HT HD HE HLE HA3 HW3 c2 g2 hpc hpl hlc hp1 hl1 hpc2 hpl2 hlc2
    go_wp2_with fail
    go_ret
    exact ⟨rfl, _, _, by rw [← HF.out]; exact HA4.out, HW4.out⟩
end
end Go.Proofs.Ytckkdgifjgkoaaa

/- Get of the reference of chapter 13. -/
namespace Go.Proofs.Ytckkdgifjgkoaaa
open Go.ChangeShapes Go.WideShapes Go.ChangeAt Go.RowKit An

def Mem.back (m : Mem) : Value := .agg #[.int .i64 (m.id : Int), .int .u32 (m.addr : Int), .int .i64 (m.port : Int)]
def noBack : Value := .agg #[.int .i64 0, .int .u32 0, .int .i64 0]
section
variable {base : Nat} {w : World} {key : ByteArray} {room : Nat} {b : RBk} {v vL : Value} {s : An} {L : List Mem} {own : Nat → Nat}
set_option maxRecDepth 100000 in
set_option maxHeartbeats 2000000 in
theorem rget_none (h : RAt base w key room b v vL s L own) (hl : L.length ≤ 1000000) (id : Int) (ht : Po.there L id = false) :
    Calls Try.prog 28 #[.pointer (some ⟨b.p, 0, none⟩), .int .i64 id] w fun e w' => e = .returned (.tuple #[noBack, .int .i64 0, .int .i64 19]) ∧ Below w.heap.size w w' := by
  have hb0 : Below w.heap.size w (w.alloc (.cells #[.int .i64 0, .int .u32 0, .int .i64 0] 33)) := (Below.refl _ _).alloc (Nat.le_refl _) _
  have hr0 := row_new w [.int .i64 0, .int .u32 0, .int .i64 0] 33
  have hp := rplace_any (h.on hb0) hl id
  rw [ht] at hp
  obtain ⟨p, hpp⟩ : ∃ p, Po.place L id = p := ⟨_, rfl⟩
  rw [hpp] at hp
  have HX : Shut (Below w.heap.size w _ ∧ Row _ w.heap.size _) := ⟨hb0, hr0⟩
  clear h hl ht hpp hb0 hr0
  go_enter Try.func28, Try.ntmps28
  go_wp2_with fail
  refine hp.mono ?_
  rintro e w1 ⟨rfl, n, hw⟩
  obtain rfl := hw.symm
  have HR : Shut (Row ((w.alloc (.cells #[.int .i64 0, .int .u32 0, .int .i64 0] 33)).drewN n) w.heap.size [.int .i64 0, .int .u32 0, .int .i64 0]) := ⟨HX.out.2⟩
  have HB : Shut (Below w.heap.size w ((w.alloc (.cells #[.int .i64 0, .int .u32 0, .int .i64 0] 33)).drewN n)) := ⟨below_drewN HX.out.1 n⟩
  clear hp HX hw
  generalize (w.alloc (.cells #[.int .i64 0, .int .u32 0, .int .i64 0] 33)).drewN n = V at *
  have c0 := HR.out.cell 0 _ rfl
  have c1 := HR.out.cell 1 _ rfl
  have c2 := HR.out.cell 2 _ rfl
  have f0 := HR.out.free 0
  have f1 := HR.out.free 1
  have f2 := HR.out.free 2
  have HR1 : Shut _ := ⟨((HR.out.set 0 (.int .i64 0)).set 1 (.int .u32 0)).set 2 (.int .i64 0)⟩
  have HB1 : Shut _ := ⟨((HB.out.setCell (p := ⟨w.heap.size, 0, none⟩) (Nat.le_refl _) (.int .i64 0)).setCell (p := ⟨w.heap.size, 1, none⟩) (Nat.le_refl _) (.int .u32 0)).setCell (p := ⟨w.heap.size, 2, none⟩) (Nat.le_refl _) (.int .i64 0)⟩
  clear HR HB
  go_wp2_with fail
  generalize ((V.setCell ⟨w.heap.size, 0, none⟩ (.int .i64 0)).setCell ⟨w.heap.size, 1, none⟩ (.int .u32 0)).setCell ⟨w.heap.size, 2, none⟩ (.int .i64 0) = V1 at *
  have d0 := HR1.out.cell 0 _ rfl
  have d1 := HR1.out.cell 1 _ rfl
  have d2 := HR1.out.cell 2 _ rfl
  refine bodyPost_ret (v := .tuple #[noBack, .int .i64 0, .int .i64 19]) (by unfold noBack; simp [results, Try.results28, go_sem, d0, d1, d2]) rfl ⟨rfl, HB1.out⟩
set_option maxRecDepth 100000 in
set_option maxHeartbeats 4000000 in
theorem rget_ok (h : RAt base w key room b v vL s L own) (hl : L.length ≤ 1000000) (id : Int) (ht : Po.there L id = true) (m : Mem) (hm : L[Po.place L id]? = some m) :
    Calls Try.prog 28 #[.pointer (some ⟨b.p, 0, none⟩), .int .i64 id] w fun e w' => e = .returned (.tuple #[m.back, .int .i64 (m.st : Int), .int .i64 0]) ∧ Below w.heap.size w w' := by
  have hb0 : Below w.heap.size w (w.alloc (.cells #[.int .i64 0, .int .u32 0, .int .i64 0] 33)) := (Below.refl _ _).alloc (Nat.le_refl _) _
  have hr0 := row_new w [.int .i64 0, .int .u32 0, .int .i64 0] 33
  have hp := rplace_any (h.on hb0) hl id
  rw [ht] at hp
  obtain ⟨p, hpp⟩ : ∃ p, Po.place L id = p := ⟨_, rfl⟩
  rw [hpp] at hp hm
  have hi : p < L.length := (List.getElem?_eq_some_iff.1 hm).1
  have hi1 : (p : Int) < L.length := by omega
  have HX : Shut (Below w.heap.size w _ ∧ Row _ w.heap.size _) := ⟨hb0, hr0⟩
  have HA : Shut _ := ⟨h.on hb0⟩
  have HM : Shut (L[p]? = some m) := ⟨hm⟩
  have hbp : ¬ b.p = w.heap.size := by have := h.head.lt; omega
  have hbp2 : ¬ w.heap.size = b.p := fun e => hbp e.symm
  have HG : Shut (∀ g, vL.ownBlock = some g → ¬ g = w.heap.size) := ⟨fun g hg => by have := (h.row.lt g hg).2; omega⟩
  clear h hl ht hpp hb0 hr0 hm
  go_enter Try.func28, Try.ntmps28
  go_wp2_with fail
  refine hp.mono ?_
  rintro e w1 ⟨rfl, n, hw⟩
  obtain rfl := hw.symm
  have HR : Shut (Row ((w.alloc (.cells #[.int .i64 0, .int .u32 0, .int .i64 0] 33)).drewN n) w.heap.size [.int .i64 0, .int .u32 0, .int .i64 0]) := ⟨HX.out.2⟩
  have HB : Shut (Below w.heap.size w ((w.alloc (.cells #[.int .i64 0, .int .u32 0, .int .i64 0] 33)).drewN n)) := ⟨below_drewN HX.out.1 n⟩
  have HA1 : Shut (RAt base ((w.alloc (.cells #[.int .i64 0, .int .u32 0, .int .i64 0] 33)).drewN n) key room b v vL s L own) := ⟨HA.out.drewN n⟩
  clear hp HX hw HA
  generalize (w.alloc (.cells #[.int .i64 0, .int .u32 0, .int .i64 0] 33)).drewN n = V at *
  have z0 := HR.out.cell 0 _ rfl
  have z1 := HR.out.cell 1 _ rfl
  have z2 := HR.out.cell 2 _ rfl
  have f0 := HR.out.free 0
  have f1 := HR.out.free 1
  have f2 := HR.out.free 2
  obtain ⟨_, _, c2, _, _⟩ := HA1.out.cells
  obtain ⟨g, c, hv, m0, m1, m2, m3, m4, _, _⟩ := HA1.out.mem p m HM.out
  rw [hv] at c2
  have hgp : ¬ g = w.heap.size := HG.out g (by rw [hv]; rfl)
  have hgp2 : ¬ w.heap.size = g := fun e => hgp e.symm
  obtain ⟨x0, e0⟩ : ∃ x : Int, (m.id : Int) = x := ⟨_, rfl⟩
  obtain ⟨x1, e1⟩ : ∃ x : Int, (m.addr : Int) = x := ⟨_, rfl⟩
  obtain ⟨x2, e2⟩ : ∃ x : Int, (m.port : Int) = x := ⟨_, rfl⟩
  have HV : Shut (m.back = .agg #[.int .i64 x0, .int .u32 x1, .int .i64 x2]) := ⟨by unfold Mem.back; rw [e0, e1, e2]⟩
  rw [e0] at m0
  rw [e1] at m1
  rw [e2] at m2
  have HR1 : Shut (Row (((V.setCell ⟨w.heap.size, 0, none⟩ (.int .i64 x0)).setCell ⟨w.heap.size, 1, none⟩ (.int .u32 x1)).setCell ⟨w.heap.size, 2, none⟩ (.int .i64 x2)).drew w.heap.size [.int .i64 x0, .int .u32 x1, .int .i64 x2]) := ⟨((HR.out.set 0 (.int .i64 x0)).set 1 (.int .u32 x1)).set 2 (.int .i64 x2)⟩
  have HB1 : Shut (Below w.heap.size w (((V.setCell ⟨w.heap.size, 0, none⟩ (.int .i64 x0)).setCell ⟨w.heap.size, 1, none⟩ (.int .u32 x1)).setCell ⟨w.heap.size, 2, none⟩ (.int .i64 x2)).drew) := ⟨below_drewN (((HB.out.setCell (p := ⟨w.heap.size, 0, none⟩) (Nat.le_refl _) (.int .i64 x0)).setCell (p := ⟨w.heap.size, 1, none⟩) (Nat.le_refl _) (.int .u32 x1)).setCell (p := ⟨w.heap.size, 2, none⟩) (Nat.le_refl _) (.int .i64 x2)) 1⟩
  clear HR HB HA1 hv e0 e1 e2 hi m4
  go_wp2_with fail
  go_region
  generalize (((V.setCell ⟨w.heap.size, 0, none⟩ (.int .i64 x0)).setCell ⟨w.heap.size, 1, none⟩ (.int .u32 x1)).setCell ⟨w.heap.size, 2, none⟩ (.int .i64 x2)).drew = V1 at *
  clear z0 z1 z2 f0 f1 f2 c2 m0 m1 m2 m3
  have d0 := HR1.out.cell 0 _ rfl
  have d1 := HR1.out.cell 1 _ rfl
  have d2 := HR1.out.cell 2 _ rfl
  go_wp2_with fail
  refine bodyPost_ret (v := .tuple #[.agg #[.int .i64 x0, .int .u32 x1, .int .i64 x2], .int .i64 (m.st : Int), .int .i64 0]) (by simp [results, Try.results28, go_sem, d0, d1, d2]) rfl ⟨by rw [HV.out], HB1.out⟩
end
end Go.Proofs.Ytckkdgifjgkoaaa
