/- examples and some of the law's package. -/
import Derived.Test.YtmmaglhilghofaaAnReach
import Derived.Test.YtmmaglhilghofaaAnNew
namespace Go.Proofs.Ytmmaglhilghofaa
open Go.ChangeShapes Go.WideShapes Go.ChangeAt Go.RowKit An

def ex0 : An := An.start 3 2
def ex1 : An := addS ex0
def ex2 : An := remS ex1 0
theorem ex0_reach : An.Reach 3 ex0 := reach_start 3 1 2 rfl (by decide) (by decide)
theorem ex1_reach : An.Reach 3 ex1 := reach_add ex0_reach
theorem ex2_reach : An.Reach 3 ex2 := reach_rem ex1_reach 0
set_option maxRecDepth 100000 in
set_option maxHeartbeats 1000000 in
theorem examples_any (w : World) :
    Calls Try.prog 7 #[] w fun e w' => e = .returned (.bool true) ∧ Below w.heap.size w w' := by
  go_enter Try.func7, Try.ntmps7
  go_wp2_with fail
  refine (new_made 3 2 (by decide) (by decide) (by decide) w).mono ?_
  rintro e w1 ⟨bk, v, rfl, hA, hb⟩
  have h1 := add_any hA ex0_reach (by decide)
  rw [show addB (An.start 3 2) = 2 from rfl, show addE (An.start 3 2) = 0 from rfl, show addS (An.start 3 2) = ex1 from rfl] at h1
  have HA : Shut _ := ⟨hA⟩
  have HB : Shut _ := ⟨hb⟩
  clear hA hb
  go_wp2_with fail
  refine (new_bad 3 4 (by decide) _).mono ?_
  rintro e w2 ⟨rfl, rfl⟩
  go_wp2_with fail
  refine h1.mono ?_
  rintro e w3 ⟨rfl, v3, hA3, hw3⟩
  have h2 := add_any hA3 ex1_reach (by decide)
  rw [show addB ex1 = 0 from rfl, show addE ex1 = 16 from rfl, show addS ex1 = ex1 from rfl] at h2
  have HB3 : Shut _ := ⟨hw3.below HB.out HA.out (Nat.le_refl _)⟩
  have HA3 : Shut _ := ⟨hA3⟩
  clear hA3 hw3 HA HB h1
  go_wp2_with fail
  refine h2.mono ?_
  rintro e w4 ⟨rfl, v4, hA4, hw4⟩
  have h3 := remove_any hA4 ex1_reach (by decide) 0
  rw [show remE ex1 0 = 0 by decide, show remS ex1 0 = ex2 from rfl] at h3
  have HB4 : Shut _ := ⟨hw4.below HB3.out HA3.out (Nat.le_refl _)⟩
  have HA4 : Shut _ := ⟨hA4⟩
  clear hA4 hw4 HA3 HB3 h2
  go_wp2_with fail
  refine h3.mono ?_
  rintro e w5 ⟨rfl, v5, hA5, hw5⟩
  have HB5 : Shut _ := ⟨hw5.below HB4.out HA4.out (Nat.le_refl _)⟩
  obtain ⟨k5, hk5⟩ := Sp.nn_of 5 (by decide) (by decide)
  have h4 := len_any hA5
  have h5 := bucket_any hA5 ex2_reach.wf (by decide) k5
  have hpos : (0 : Int) < (bucket ex2 (gmix k5) : Nat) := by
    have h := (bucket_works ex2_reach.wf (gmix k5)).2
    have h0 : ex2.A 0 = 2 := by decide
    rcases Nat.eq_zero_or_pos (bucket ex2 (gmix k5)) with e | e
    · rw [e, h0] at h; exact absurd h (by decide)
    · omega
  rw [show ((ex2.n : Nat) : Int) = 2 by decide] at h4
  rw [hk5] at h5
  generalize bucket ex2 (gmix k5) = y at *
  clear hA5 hw5 HA4 HB4 h3
  go_wp2_with fail
  refine h4.mono ?_
  rintro e w6 ⟨rfl, rfl⟩
  go_wp2_with fail
  refine h5.mono ?_
  rintro e w7 ⟨rfl, rfl⟩
  go_wp2_with fail
  go_ret
  refine ⟨?_, HB5.out⟩
  simp
  omega

/-- A slice of numbers below hi that came in. -/
def Sl (k : IntKind) (W : World) (a : Option Addr) (len : Nat) (zs : List Int) (hi : Int) : Prop :=
  ∀ i, i < len → ∃ x, a = some x ∧ W.cell? (x.add i) = some (.int k (zs.getD i 0)) ∧ 0 ≤ zs.getD i 0 ∧ zs.getD i 0 < hi
theorem Sl.on {k : IntKind} {W W' : World} {a : Option Addr} {len : Nat} {zs : List Int} {hi : Int} (h : Sl k W a len zs hi) (hb : Below W.heap.size W W') : Sl k W' a len zs hi := fun i hi => by
  obtain ⟨x, h1, h2, h3⟩ := h i hi
  exact ⟨x, h1, (hb.cell (block_lt_of_cell h2)).trans h2, h3⟩
set_option maxRecDepth 100000 in
set_option maxHeartbeats 2000000 in
theorem some_any (q : Nat) (hq : q ≤ 255) (a : Option Addr) (len cap : Nat) (zs : List Int) (w : World) (hs : Sl .u8 w a len zs 256) :
    Calls Try.prog 18 #[.int .u8 (q : Int), .slice a len cap] w fun e w' => ∃ (bk : Bk) (v : Value) (s : An), e = .returned (.pointer (some ⟨bk.p, 0, none⟩)) ∧ AnAt hdA w.heap.size w' bk v s ∧ An.Reach (2 + q % 39) s ∧ Below w.heap.size w w' := by
  obtain ⟨n, hn⟩ : ∃ n, 2 + q % 39 = n := ⟨_, rfl⟩
  rw [hn]
  have hq1 : (q : Int) ≤ 255 := by omega
  have hn2 : 2 ≤ n := by omega
  have hn40 : n ≤ 40 := by omega
  have hni : (2 : Int) + (q : Int) % 39 = (n : Int) := by omega
  have hnew := new_made n n (by omega) (Nat.le_refl _) (by omega) w
  have h0 : An.Reach n (An.start n n) := reach_start n 0 n (by omega) (by omega) (Nat.le_refl _)
  generalize An.start n n = s0 at *
  have HN : Shut (2 ≤ n ∧ n ≤ 40) := ⟨hn2, hn40⟩
  clear hn hn2 hn40
  go_enter Try.func18, Try.ntmps18
  go_wp2_with fail
  refine hnew.mono ?_
  rintro e w1 ⟨bk, v, rfl, hA, hb⟩
  go_wp2_with fail
  go_loopw [8] (fun x W => ∃ (i : Nat) (v : Value) (s : An), x = .int .i64 (i : Int) ∧ i ≤ 30 ∧ An.Reach n s ∧ Shut (AnAt hdA w.heap.size W bk v s) ∧ Shut (Below w.heap.size w W)) (fun x _ => 30 - (intOf x).toNat)
  case atStart => exact ⟨0, _, _, rfl, by omega, h0, ⟨hA⟩, ⟨hb⟩⟩
  case round =>
    obtain ⟨i, v, s, rfl, hi, hR, HA, HB⟩ := hrel
    clear hA hb hnew
    by_cases hlt : i < len
    · have hlt1 : (i : Int) < len := by omega
      by_cases h30 : i < 30
      · obtain ⟨x, rfl, hc, z0, z1⟩ := hs.on HB.out i hlt
        have h30' : (i : Int) < 30 := by omega
        obtain ⟨z, hz⟩ := Int.eq_ofNat_of_zero_le z0
        rw [hz] at hc z1
        have hzn : (z : Int).tmod (n : Int) = ((z % n : Nat) : Int) := by rw [← Int.ofNat_tmod]
        have hnz : ¬ (n : Int) = 0 := by have := HN.out; omega
        have hrem := remove_any HA.out hR (by have := HN.out; omega) ((z % n : Nat) : Int)
        have HR2 : Shut _ := ⟨reach_rem hR ((z % n : Nat) : Int)⟩
        generalize z % n = y at *
        clear hs
        go_wp2_with fail
        refine hrem.mono ?_
        rintro e w2 ⟨rfl, v2, hA2, hw2⟩
        have HA2 : Shut _ := ⟨hA2⟩
        have HB2 : Shut _ := ⟨hw2.below HB.out HA.out (Nat.le_refl _)⟩
        clear hA2 hw2 HA HB hrem
        go_wp2_with fail
        go_roundw
        case rel => exact ⟨i + 1, _, _, by go_num, by omega, HR2.out, HA2, HB2⟩
        case measure => simp [intOf]; omega
      · have h30' : ¬ (i : Int) < 30 := by omega
        go_wp2_with fail
        go_ret
        exact ⟨_, rfl, _, _, HA.out, hR, HB.out⟩
    · have hd : decide ((i : Int) < len) = false := by simpa using hlt
      go_wp2_with fail
      go_ret
      exact ⟨bk, v, s, rfl, HA.out, hR, HB.out⟩
end Go.Proofs.Ytmmaglhilghofaa
