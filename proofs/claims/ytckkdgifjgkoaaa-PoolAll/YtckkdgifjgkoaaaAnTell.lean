/- Len, stood and Bucket of package anchor. -/
import Derived.Test.YtckkdgifjgkoaaaAnMem
namespace Go.Proofs.Ytckkdgifjgkoaaa
open Go.ChangeShapes Go.WideShapes Go.ChangeAt Go.RowKit An

section
variable {base : Nat} {w : World} {b : Bk} {v : Value} {s : An}
set_option maxRecDepth 100000 in
set_option maxHeartbeats 1000000 in
theorem stood_any (hA : AnAt hdA base w b v s) (wf : WF s) (hr : s.r ≤ 65536) {m p h : Nat} (o : On s m p h) (hm : m ≤ s.r) :
    Calls Try.prog 57 #[.pointer (some ⟨b.p, 0, none⟩), .int .i64 (h : Int), .int .i64 (m : Int)] w fun e w' => e = .returned (.int .i64 (found s m h : Nat)) ∧ w' = w := by
  obtain ⟨_, c1, _, _, c4, _⟩ := hA.headA
  have hm1 : (m : Int) ≤ 65536 := by omega
  have hr1 : (s.r : Int) ≤ 65536 := by omega
  go_enter Try.func57, Try.ntmps57
  go_wp2_with fail
  go_loop [7] (fun x => ∃ h' : Nat, x = .int .i64 (h' : Int) ∧ On s m p h' ∧ Hid (found s m h' = found s m h)) (fun x => s.A (intOf x).toNat)
  case atStart => exact ⟨h, rfl, o, rfl⟩
  case round =>
    obtain ⟨h', rfl, o', HF⟩ := hrel
    have hlt : (h' : Int) < s.r := by have := o'.1; omega
    have ca := hA.cellA h' o'.1
    have ck := hA.cellK h' o'.1
    have hA1 : (s.A h' : Int) < 65536 := by have := a_lt wf o'.1; omega
    have hK1 : (s.K h' : Int) < 65536 := by have := wf.kr h' o'.1; omega
    by_cases hle : (m : Int) ≤ s.A h'
    · obtain ⟨o2, hd⟩ := on_step wf o' (by omega)
      have HF2 : Hid (found s m (s.K h') = found s m h) := by show _ = _; rw [← found_step wf o' (by omega)]; exact HF.out
      go_wp2_with fail
      go_round
      case rel => exact ⟨s.K h', rfl, o2, HF2⟩
      case measure => simpa [intOf] using hd
    · have hd : decide ((m : Int) ≤ s.A h') = false := by simpa using hle
      have HF2 : Hid (h' = found s m h) := by show _ = _; rw [← HF.out, found_here o'.1 (by omega)]
      go_wp2_with fail
      go_ret
      exact ⟨by rw [← HF2.out]; rfl, rfl⟩

set_option maxRecDepth 100000 in
set_option maxHeartbeats 1000000 in
theorem bucket_any (hA : AnAt hdA base w b v s) (wf : WF s) (hr : s.r ≤ 65536) (k : Sp.B) :
    Calls Try.prog 35 #[.pointer (some ⟨b.p, 0, none⟩), .int .u64 (Sp.nn k)] w fun e w' => e = .returned (.int .i64 (bucket s (gmix k) : Nat)) ∧ w' = w := by
  obtain ⟨_, c1, _, _, _, _⟩ := hA.headA
  have hr1 : (s.r : Int) ≤ 65536 := by omega
  have hn := wf.n1
  have hnr := wf.nr
  have hp0 := pick_any k s.r s.r (by omega) (by omega) (by omega)
  have HB : Hid (told s (gmix k) (gmix k s.r % s.r) = bucket s (gmix k)) := rfl
  have hlt0 : gmix k s.r % s.r < s.r := Nat.mod_lt _ (by omega)
  obtain ⟨c, hc⟩ : ∃ c, gmix k s.r % s.r = c := ⟨_, rfl⟩
  rw [hc] at hp0 HB hlt0
  clear hc
  have ca := hA.cellA c hlt0
  have hlt1 : (c : Int) < s.r := by omega
  have hA0 : (s.A c : Int) < 65536 := by have := a_lt wf hlt0; omega
  go_enter Try.func35, Try.ntmps35
  go_wp2_with fail
  refine (hp0 _).mono ?_
  rintro e w2 ⟨rfl, hw2⟩
  obtain rfl := hw2.symm
  clear hw2
  go_wp2_with fail
  clear ca hlt1 hA0
  go_loop [6, 7] (fun x y => ∃ d : Nat, x = .int .i64 (d : Int) ∧ y = .int .i64 (s.A d : Int) ∧ d < s.r ∧ Hid (told s (gmix k) d = bucket s (gmix k))) (fun x _ => s.A (intOf x).toNat)
  case atStart => exact ⟨c, rfl, rfl, hlt0, HB⟩
  case round =>
    obtain ⟨d, rfl, rfl, hlt, HD⟩ := hrel
    have hA1 : (s.A d : Int) < 65536 := by have := a_lt wf hlt; omega
    by_cases hz : s.A d = 0
    · have HD2 : Hid (d = bucket s (gmix k)) := by show _ = _; rw [← HD.out, told_here _ hlt hz]
      go_wp2_with fail
      go_ret
      exact ⟨by rw [← HD2.out]; rfl, rfl⟩
    · have hz1 : (0 : Int) < s.A d := by omega
      have hp := pick_any k d (s.A d) (by omega) (by omega) (by omega)
      have o := on_start wf (Nat.mod_lt (gmix k d) (show s.A d > 0 by omega)) (Nat.le_of_lt (a_lt wf hlt))
      have hs := stood_any hA wf hr o (Nat.le_of_lt (a_lt wf hlt))
      obtain ⟨h1, h2⟩ := next_ok wf (gmix k) hlt hz
      have HD2 : Hid (told s (gmix k) (next s (gmix k) d) = bucket s (gmix k)) := by show _ = _; rw [← told_step wf _ hlt hz]; exact HD.out
      rw [show found s (s.A d) (gmix k d % s.A d) = next s (gmix k) d from rfl] at hs
      obtain ⟨x, hx⟩ : ∃ x, gmix k d % s.A d = x := ⟨_, rfl⟩
      obtain ⟨y, hy⟩ : ∃ y, next s (gmix k) d = y := ⟨_, rfl⟩
      rw [hx] at hp hs
      rw [hy] at hs h1 h2 HD2
      clear hx hy o
      have cy := hA.cellA y h2
      have hy1 : (y : Int) < s.r := by omega
      have H1 := hide h1
      clear h1 hz hr hr1 hA1
      go_wp2_with fail
      refine (hp _).mono ?_
      rintro e w2 ⟨rfl, rfl⟩
      go_wp2_with fail
      refine hs.mono ?_
      rintro e w2 ⟨rfl, rfl⟩
      go_wp2_with fail
      go_round
      case rel => exact ⟨y, rfl, rfl, h2, HD2⟩
      case measure => simpa [intOf] using unhide H1
end
end Go.Proofs.Ytckkdgifjgkoaaa
