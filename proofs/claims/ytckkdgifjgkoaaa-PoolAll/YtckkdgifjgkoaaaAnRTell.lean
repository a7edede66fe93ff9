/- Bucket of the reference of chapter 12. -/
import Derived.Test.YtckkdgifjgkoaaaAnTell
namespace Go.Proofs.Ytckkdgifjgkoaaa
open Go.ChangeShapes Go.WideShapes Go.ChangeAt Go.RowKit An

section
variable {base : Nat} {w : World} {b : Bk} {v : Value} {s : An}
set_option maxRecDepth 100000 in
set_option maxHeartbeats 1000000 in
theorem rbucket_any (hA : AnAt hdR base w b v s) (wf : WF s) (hr : s.r ≤ 65536) (k : Sp.B) :
    Calls Try.prog 49 #[.pointer (some ⟨b.p, 0, none⟩), .int .u64 (Sp.nn k)] w fun e w' => e = .returned (.int .i64 (bucket s (gmix k) : Nat)) ∧ Below w.heap.size w w' := by
  obtain ⟨c0, _, _, _, _, _⟩ := hA.headR
  have hr1 : (s.r : Int) ≤ 1000000 := by omega
  have hr0 : ¬ (s.r : Int) = 0 := by have := wf.n1; have := wf.nr; omega
  have hp0 := rmix_num k s.r (by omega)
  have hG0 := gmix_lt k s.r
  have HB : Hid (told s (gmix k) (gmix k s.r % s.r) = bucket s (gmix k)) := rfl
  have hlt0 : gmix k s.r % s.r < s.r := Nat.mod_lt _ (by omega)
  have e0 : (gmix k s.r : Int).tmod (s.r : Int) = ((gmix k s.r % s.r : Nat) : Int) := by rw [← Int.ofNat_tmod]
  obtain ⟨c, hc⟩ : ∃ c, gmix k s.r % s.r = c := ⟨_, rfl⟩
  obtain ⟨G, hG⟩ : ∃ G, gmix k s.r = G := ⟨_, rfl⟩
  rw [hc] at e0 HB hlt0
  rw [hG] at e0 hp0 hG0
  have hG1 : (G : Int) < 18446744073709551616 := by omega
  have hlt1 : (c : Int) < 1000000 := by omega
  clear hc hG
  go_enter Try.func49, Try.ntmps49
  go_wp2_with fail
  refine (hp0 _).mono ?_
  rintro e w2 ⟨rfl, hw2⟩
  obtain rfl := hw2.symm
  clear hw2
  go_wp2_with fail
  clear hlt1 hG1 e0 hr0 c0 hp0 hG0
  go_loopw [6, 7] (fun x _ W => ∃ d : Nat, x = .int .i64 (d : Int) ∧ d < s.r ∧ AnAt hdR base W b v s ∧ Below w.heap.size w W ∧ Hid (told s (gmix k) d = bucket s (gmix k))) (fun x _ _ => s.A (intOf x).toNat)
  case atStart => exact ⟨c, rfl, hlt0, hA, Below.refl _ _, HB⟩
  case round =>
    obtain ⟨d, rfl, hlt, hA2, hb, HD⟩ := hrel
    clear hA hlt0 HB
    obtain ⟨c0, _, _, c3, _, _⟩ := hA2.headR
    have ca := hA2.cellA d hlt
    have hlt1 : (d : Int) < s.r := by omega
    by_cases hz : s.A d = 0
    · have HD2 : Hid (d = bucket s (gmix k)) := by show _ = _; rw [← HD.out, told_here _ hlt hz]
      have HB := hide hb
      clear hb
      go_wp2_with fail
      go_ret
      exact ⟨by rw [← HD2.out]; rfl, unhide HB⟩
    · have hp := rmix_num k d (by omega)
      have hG0 := gmix_lt k d
      have e0 : (gmix k d : Int).tmod (s.A d : Int) = ((gmix k d % s.A d : Nat) : Int) := by rw [← Int.ofNat_tmod]
      have o := on_start wf (Nat.mod_lt (gmix k d) (show s.A d > 0 by omega)) (Nat.le_of_lt (a_lt wf hlt))
      obtain ⟨h1, h2⟩ := next_ok wf (gmix k) hlt hz
      have HD2 : Hid (told s (gmix k) (next s (gmix k) d) = bucket s (gmix k)) := by show _ = _; rw [← told_step wf _ hlt hz]; exact HD.out
      have HN : Hid (found s (s.A d) (gmix k d % s.A d) = next s (gmix k) d) := rfl
      obtain ⟨x, hx⟩ : ∃ x, gmix k d % s.A d = x := ⟨_, rfl⟩
      obtain ⟨G, hG⟩ : ∃ G, gmix k d = G := ⟨_, rfl⟩
      obtain ⟨y, hy⟩ : ∃ y, next s (gmix k) d = y := ⟨_, rfl⟩
      rw [hx] at o HN e0
      rw [hG] at hp hG0 e0
      rw [hy] at h1 h2 HD2 HN
      clear hx hy hG
      have HG1 : Shut ((G : Int) < 18446744073709551616) := ⟨by omega⟩
      have Hxm : Shut ((x : Int) < 1000000) := ⟨by have := o.1; omega⟩
      have HA1 : Shut ((s.A d : Int) < 1000000) := ⟨by have := a_lt wf hlt; omega⟩
      have Hd1 : Shut ((d : Int) < 1000000) := ⟨by omega⟩
      have H1 := hide h1
      have hz1 : (0 : Int) < s.A d := by omega
      have HR : Shut (s.r ≤ 65536) := ⟨hr⟩
      clear h1 hz hr hr1 hG0
      go_wp2_with fail
      have hz2 : ¬ (s.A d : Int) = 0 := by omega
      have hG1 := HG1.out
      have hxm := Hxm.out
      have hA1 := HA1.out
      have hd1 := Hd1.out
      go_quiet (exact (hp _).mono fun e w' h => ⟨h.1, _, h.2⟩)
      have hA3 := hA2.drewN
      have hb3 := below_drewN hb
      clear hz1 hz2 hG1 hxm hA1 hd1 ca c0 c3
      go_wp2_with fail
      go_loopw [7] (fun z W => ∃ h : Nat, z = .int .i64 (h : Int) ∧ On s (s.A d) x h ∧ AnAt hdR base W b v s ∧ Below w.heap.size w W ∧ Hid (found s (s.A d) h = y)) (fun z _ => s.A (intOf z).toNat)
      case atStart => exact ⟨x, rfl, o, hA3 _, hb3 _, HN⟩
      case round =>
        obtain ⟨h, rfl, o', hA4, hb4, HF⟩ := hrel
        clear hA3 hb3 hA2 hb
        obtain ⟨c0, _, _, c3, _, _⟩ := hA4.headR
        have ca := hA4.cellA d hlt
        have ch := hA4.cellA h o'.1
        have ck := hA4.cellK h o'.1
        have hh1 : (h : Int) < s.r := by have := o'.1; omega
        have HB4 := hide hb4
        have HA4 : Shut (AnAt hdR base wr b v s) := ⟨hA4⟩
        by_cases hle : (s.A d : Int) ≤ s.A h
        · obtain ⟨o2, hd⟩ := on_step wf o' (by omega)
          have HF2 : Hid (found s (s.A d) (s.K h) = y) := by show _ = _; rw [← found_step wf o' (by omega)]; exact HF.out
          have HD := hide hd
          clear hd hb4 hA4
          go_wp2_with fail
          go_quiet (fail)
          go_wp2_with fail
          go_roundw
          case rel => exact ⟨s.K h, rfl, o2, HA4.out.drewN _, below_drewN (unhide HB4) _, HF2⟩
          case measure => simpa [intOf] using unhide HD
        · have hd : decide ((s.A d : Int) ≤ s.A h) = false := by simpa using hle
          have HF2 : h = y := by rw [← HF.out, found_here o'.1 (by omega)]
          subst HF2
          clear hb4 hA4
          go_wp2_with fail
          go_quiet (fail)
          go_wp2_with fail
          go_roundw
          case rel => exact ⟨h, rfl, h2, HA4.out.drewN _, below_drewN (unhide HB4) _, HD2⟩
          case measure => simpa [intOf] using unhide H1
end
end Go.Proofs.Ytckkdgifjgkoaaa
