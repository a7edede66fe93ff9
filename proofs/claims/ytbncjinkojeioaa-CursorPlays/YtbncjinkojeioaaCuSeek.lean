/- search of package cursor: two loops, left by a label. -/
import Derived.Test.YtbncjinkojeioaaCuRead
import Derived.Deep.LoopGhost
namespace Go.Proofs.Ytbncjinkojeioaa
open Go.ChangeShapes Go.WideShapes Go.ChangeAt Go.RowKit Sp Cu

section
variable {base : Nat} {w : World} {p : Nat} {v : Value} {ws : List B} {n a m : Nat}
theorem used_is (h : CurAt base w p v ws n a m) (hn : n ≤ 65536) (u : Nat → Bool) (hb : ∀ i, bit ws i = u i) (k : Nat) (hk : k < n) (b : Bool) (hu : u k = b) :
    Calls Try.prog 12 #[.pointer (some ⟨p, 0, none⟩), .int .i64 (k : Int)] w fun e w' => e = .returned (.bool b) ∧ w' = w := by
  refine (used_any h hn u hb k).mono ?_
  rintro e w' ⟨rfl, rfl⟩
  refine ⟨ret_bool ?_, rfl⟩
  rw [decide_eq_true (by omega), Bool.true_and, show (k : Int).toNat = k by omega, hu]
theorem or_i64 (k : Nat) (hk : k ≤ 65600) : bits .or .i64 (k : Int) 63 = ((k / 64 * 64 + 63 : Nat) : Int) := by
  have hx : k ||| 63 < 2 ^ 17 := Nat.or_lt_two_pow (by omega) (by decide)
  rw [← or63]
  show IntKind.i64.wrap ((BitVec.ofInt 64 (k : Int) ||| BitVec.ofInt 64 ((63 : Nat) : Int)).toNat : Int) = _
  rw [BitVec.toNat_or, ofInt_u64 k (by omega), ofInt_u64 63 (by decide), IntKind.wrap_i64]
  omega
/-- From j on to below T all are used; T is the one that is sought, or the end. -/
structure Phase (s : Cu) (i j T : Nat) : Prop where
  used : ∀ k, j ≤ k → k < T → s.u k = true
  here : T = i ∧ s.u i = false ∧ i < s.n ∨ T = s.n ∧ i < s.at_ ∧ j = s.at_ ∧ i < j
  le : j ≤ T
  top : T ≤ s.n
theorem phase_of {s : Cu} {i g j : Nat} (hi : Sought s i) (ha : s.at_ < s.n) (h : g = 1 ∧ j = s.at_ ∨ g = 0 ∧ j = 0 ∧ i < s.at_) : ∃ T, Phase s i j T ∧ (g = 0 → T = i) := by
  obtain ⟨h1, h2, h3⟩ := hi
  rcases h with ⟨rfl, rfl⟩ | ⟨rfl, rfl, h⟩
  · rcases h3 with ⟨h3, h4⟩ | ⟨h3, h4, h5⟩
    · exact ⟨i, ⟨h4, .inl ⟨rfl, h2, h1⟩, h3, by omega⟩, fun h => by omega⟩
    · exact ⟨s.n, ⟨h4, .inr ⟨rfl, h3, rfl, h3⟩, by omega, Nat.le_refl _⟩, fun h => by omega⟩
  · rcases h3 with ⟨h3, h4⟩ | ⟨h3, h4, h5⟩
    · omega
    · exact ⟨i, ⟨fun k _ hk => h5 k hk, .inl ⟨rfl, h2, h1⟩, by omega, by omega⟩, fun _ => rfl⟩
/-- Where a round of the inner loop stands. -/
structure Stands (s : Cu) (i j T k g : Nat) : Prop where
  ge : j ≤ k
  near : T = i ∧ s.u i = false ∧ i < s.n → k ≤ T
  most : k ≤ s.n + 63
  left : s.n ≤ k + g
theorem stands_full {s : Cu} {ws : List B} (hb : ∀ i, bit ws i = s.u i) {i j T k g : Nat} (_P : Phase s i j T) (S : Stands s i j T k (g + 1)) (hk : k < s.n) (hf : wd ws (k / 64) = 18446744073709551615#64) : Stands s i j T (k / 64 * 64 + 64) g := by
  refine ⟨by have := S.ge; omega, fun h => ?_, by omega, by have := S.left; omega⟩
  have h1 := S.near h
  refine Classical.byContradiction fun hc => ?_
  have h2 : T / 64 = k / 64 := by omega
  have h3 := bit_full hf T h2
  rw [hb, h.1, h.2.1] at h3
  cases h3
theorem stands_used {s : Cu} {i j T k g : Nat} (P : Phase s i j T) (S : Stands s i j T k (g + 1)) (hk : k < s.n) (hi : k ≠ i ∨ T ≠ i) : s.u k = true ∧ Stands s i j T (k + 1) g := by
  have hkT : k < T := by
    rcases P.here with h | h
    · have := S.near h; omega
    · omega
  exact ⟨P.used k S.ge hkT, by have := S.ge; omega, fun _ => by omega, by omega, by have := S.left; omega⟩
theorem stands_end {s : Cu} {i j T k g : Nat} (P : Phase s i j T) (S : Stands s i j T k g) (hk : ¬ k < s.n) : T ≠ i ∧ i < s.at_ := by
  rcases P.here with h | h
  · have := S.near h; omega
  · have := P.le; exact ⟨by omega, h.2.1⟩
set_option maxHeartbeats 2000000 in
theorem search_any (h : CurAt base w p v ws n a m) (hn : n ≤ 65536) (s : Cu) (hs : s = ⟨n, a, s.u⟩) (hb : ∀ i, bit ws i = s.u i) (i : Nat) (hi : Sought s i) (ha : a < n) :
    Calls Try.prog 19 #[.pointer (some ⟨p, 0, none⟩)] w fun e w' => e = .returned (.int .i64 (i : Int)) ∧ w' = w := by
  obtain ⟨c0, c1, _, _⟩ := h.cells
  have en : s.n = n := by rw [hs]
  have ea : s.at_ = a := by rw [hs]
  clear hs
  have HC : Shut _ := ⟨h⟩
  have HI : Shut _ := ⟨hi⟩
  have HA : Shut (s.n = n ∧ s.at_ = a ∧ a < n ∧ n ≤ 65536) := ⟨en, ea, ha, hn⟩
  have HB : Shut _ := ⟨hb⟩
  clear h hi hb en ea ha hn
  go_enter Try.func19, Try.ntmps19
  go_wp2_with fail
  go_step3
  go_wp2_with fail
  go_step3
  go_wp2_with fail
  go_loopg [3] 1 (fun g x W => ∃ j : Nat, x = .int .i64 (j : Int) ∧ Shut (g = 1 ∧ j = a ∨ g = 0 ∧ j = 0 ∧ i < a) ∧ W = w)
  case atStart => exact ⟨a, rfl, ⟨.inl ⟨rfl, rfl⟩⟩, rfl⟩
  case round =>
    obtain ⟨j, rfl, HJ, rfl⟩ := hrel
    obtain ⟨G, hG⟩ : ∃ G, G = gk := ⟨_, rfl⟩
    subst hG
    have HP := phase_of HI.out (by rw [HA.out.1, HA.out.2.1]; exact HA.out.2.2.1) (by rw [HA.out.2.1]; exact HJ.out)
    obtain ⟨T, HP, HT⟩ := HP
    have HP : Shut _ := ⟨HP⟩
    have HT : Shut _ := ⟨HT⟩
    go_wp2_with fail
    go_loopg [3] n (fun g x W => ∃ k : Nat, x = .int .i64 (k : Int) ∧ Shut (Stands s i j T k g) ∧ W = wr)
    case atStart => exact ⟨j, rfl, ⟨⟨Nat.le_refl _, fun _ => HP.out.le, by have := HP.out.le; have := HP.out.top; omega, by have := HA.out.1; omega⟩⟩, rfl⟩
    case round =>
      obtain ⟨k, rfl, HK, rfl⟩ := hrel
      by_cases hk : k < n
      · have hk1 : (k : Int) < n := by omega
        have hk2 : k ≤ 65600 := by have := HA.out.2.2.2; omega
        have HN : Shut (k < s.n) := ⟨by have := HA.out.1; omega⟩
        obtain ⟨g', rfl⟩ : ∃ g', gk = g' + 1 := ⟨gk - 1, by have := HK.out.left; have := HN.out; omega⟩
        by_cases hf : wd ws (k / 64) = 18446744073709551615#64
        · have S2 : Shut _ := ⟨stands_full HB.out HP.out HK.out HN.out hf⟩
          have ho : bits .or .i64 (k : Int) 63 = ((k / 64 * 64 + 63 : Nat) : Int) := or_i64 k hk2
          have cw := word_any HC.out k hk2
          rw [hf, show nn 18446744073709551615#64 = 18446744073709551615 from rfl] at cw
          obtain ⟨k', hk'⟩ : ∃ k', k / 64 * 64 + 63 = k' := ⟨_, rfl⟩
          rw [hk'] at ho
          have hkb : (k' : Int) ≤ 70000 := by omega
          rw [show k / 64 * 64 + 64 = k' + 1 by omega] at S2
          clear hk' hf
          go_wp2_with fail
          refine cw.mono ?_
          rintro e w1 ⟨rfl, rfl⟩
          go_wp2_with fail
          go_roundg g'
          case rel => exact ⟨k' + 1, by go_num, S2, rfl⟩
          case measure => omega
        · have cw := word_any HC.out k hk2
          obtain ⟨z, hz⟩ : ∃ z, nn (wd ws (k / 64)) = z := ⟨_, rfl⟩
          have hz2 : (z == 18446744073709551615) = false := by
            rw [← hz, show (18446744073709551615 : Int) = nn 18446744073709551615#64 from rfl, nn_beq]
            exact beq_eq_false_iff_ne.2 hf
          rw [hz] at cw
          have HZ : Shut _ := ⟨hz⟩
          clear hz hf
          by_cases hki : k = i ∧ T = i
          · have cu := used_is HC.out HA.out.2.2.2 s.u HB.out k hk false (by rw [hki.1]; exact HI.out.2.1)
            have HK2 : Shut (k = i) := ⟨hki.1⟩
            clear hki
            go_wp2_with fail
            refine cw.mono ?_
            rintro e w1 ⟨rfl, rfl⟩
            go_wp2_with fail
            refine cu.mono ?_
            rintro e w1 ⟨rfl, rfl⟩
            go_wp2_with fail
            try rw [Exit.noGoto_ret]
            go_ret
            exact ⟨by rw [← HK2.out]; rfl, rfl⟩
          · have hst := stands_used HP.out HK.out HN.out (by omega)
            have cu := used_is HC.out HA.out.2.2.2 s.u HB.out k hk true hst.1
            have S2 : Shut _ := ⟨hst.2⟩
            clear hst hki
            go_wp2_with fail
            refine cw.mono ?_
            rintro e w1 ⟨rfl, rfl⟩
            go_wp2_with fail
            refine cu.mono ?_
            rintro e w1 ⟨rfl, rfl⟩
            go_wp2_with fail
            go_roundg g'
            case rel => exact ⟨k + 1, by go_num, S2, rfl⟩
            case measure => omega
      · have hend := stands_end HP.out HK.out (by rw [HA.out.1]; exact hk)
        have hG : G = 1 := by
          rcases HJ.out with h | h
          · exact h.1
          · exact absurd (HT.out h.1) hend.1
        have HE : Shut (i < a) := ⟨by rw [← HA.out.2.1]; exact hend.2⟩
        have hk1 : ¬ (k : Int) < n := by omega
        clear hend hk
        subst hG
        go_wp2_with fail
        go_roundg 0
        case rel => exact ⟨0, rfl, ⟨.inr ⟨rfl, rfl, HE.out⟩⟩, rfl⟩
        case measure => omega
end
end Go.Proofs.Ytbncjinkojeioaa
