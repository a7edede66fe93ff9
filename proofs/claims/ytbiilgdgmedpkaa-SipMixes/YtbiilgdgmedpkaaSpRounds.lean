/- rounds. -/
import Derived.Test.YtbiilgdgmedpkaaSpStir
import Derived.Test.YtbiilgdgmedpkaaSpSt
namespace Go.Proofs.Ytbiilgdgmedpkaa
open Go.ChangeShapes Go.WideShapes Go.ChangeAt Go.RowKit Sp

theorem row_drew {W : World} {b : Nat} {l : List Value} (h : Row W b l) : Row W.drew b l := h
set_option maxHeartbeats 2000000 in
theorem rounds_any (p n : Nat) (s0 : St) (w : World) (hn : n ≤ 100) (hr : Row w p (cel s0.l)) :
    Calls Try.prog 21 #[.pointer (some ⟨p, 0, none⟩), .int .i64 n] w fun e w' => e = .returned (.tuple #[]) ∧ Row w' p (cel (rndN n s0).l) ∧ But [p] w w' := by
  have HR0 := hide hr
  clear hr
  go_enter Try.func21, Try.ntmps21
  go_wp2_with fail
  go_loopw [5] (fun t w' => ∃ i : Nat, i ≤ n ∧ t = .int .i64 i ∧ Row w' p (cel (rndN i s0).l) ∧ But [p] w w') (fun t _ => n - (intOf t).toNat)
  case atStart => exact ⟨0, Nat.zero_le _, rfl, unhide HR0, But.of (Below.refl _ _)⟩
  case round =>
    obtain ⟨i, hi, rfl, hr, hb⟩ := hrel
    have HR := hide hr
    have HB := hide hb
    clear hr hb HR0
    by_cases hlt : i < n
    · have hd : (i : Int) < n := by omega
      obtain ⟨s, hs⟩ : ∃ s, s = rndN i s0 := ⟨_, rfl⟩
      rw [← hs] at HR
      obtain ⟨a1, Ea1⟩ : ∃ x, Hid (x = s.a + s.b) := ⟨_, rfl⟩
      obtain ⟨b1, Eb1⟩ : ∃ x, Hid (x = rotl s.b 13 ^^^ a1) := ⟨_, rfl⟩
      obtain ⟨a2, Ea2⟩ : ∃ x, Hid (x = rotl a1 32) := ⟨_, rfl⟩
      obtain ⟨c1, Ec1⟩ : ∃ x, Hid (x = s.c + s.d) := ⟨_, rfl⟩
      obtain ⟨d1, Ed1⟩ : ∃ x, Hid (x = rotl s.d 16 ^^^ c1) := ⟨_, rfl⟩
      obtain ⟨a3, Ea3⟩ : ∃ x, Hid (x = a2 + d1) := ⟨_, rfl⟩
      obtain ⟨d2, Ed2⟩ : ∃ x, Hid (x = rotl d1 21 ^^^ a3) := ⟨_, rfl⟩
      obtain ⟨c2, Ec2⟩ : ∃ x, Hid (x = c1 + b1) := ⟨_, rfl⟩
      obtain ⟨b2, Eb2⟩ : ∃ x, Hid (x = rotl b1 17 ^^^ c2) := ⟨_, rfl⟩
      obtain ⟨c3, Ec3⟩ : ∃ x, Hid (x = rotl c2 32) := ⟨_, rfl⟩
      have HN : Hid (rnd s = ⟨a3, b2, c3, d2⟩) := by show _ = _; rw [unhide Ec3, unhide Eb2, unhide Ec2, unhide Ed2, unhide Ea3, unhide Ed1, unhide Ec1, unhide Ea2, unhide Eb1, unhide Ea1]; rfl
      go_wp2_with fail
      refine (stir_any p 0 1 13 13 [s.a, s.b, s.c, s.d] s.a s.b _ (unhide HR) rfl rfl (by decide) (by decide) (by decide) (by simp [Turn])).mono ?_
      rintro e1 w2 ⟨rfl, hr1, hb1⟩
      have hr2 : Row w2 p (cel [a1, b1, s.c, s.d]) := by rw [unhide Eb1, unhide Ea1]; exact hr1
      have HR := hide hr2
      have HB := hide ((unhide HB).trans hb1)
      clear hr1 hr2 hb1
      go_wp2_with fail
      have hlt := (unhide HR).lt
      have h0 : Row _ p (cel [a1, b1, s.c, s.d]) := (unhide HR)
      have hB0 := (unhide HB).drew
      have hq := unhide Ea2
      have h0 := row_drew h0
      clear HR HB
      refine wp_region_grow_store (by kernel_rfl) [.pointer (some ⟨p, 0, none⟩), .pointer (some ⟨p, 0, none⟩), .pointer (some ⟨p, 0, none⟩), .pointer (some ⟨p, 0, none⟩), .int .u64 (nn a1), .int .u64 (nn a2), .pointer (some ⟨p, 0, none⟩), .pointer (some ⟨p, 0, none⟩), undef] 8 (fun v => v.setCell ⟨p, 0, none⟩ (.int .u64 (nn a2))) (by kernel_rfl) (by decide) rfl ?op ?store ?fin
      case op =>
        intro i o bx u ho hne hbel hS
        match i, ho with
        | 0, ho =>
          obtain rfl := Option.some.inj ho
          have d0 : bx.tmps.getD 0 undef = .pointer (some ⟨p, 0, none⟩) := hS.base 0 (by kernel_rfl)
          refine .inl ⟨rfl, ends_value (c := .pointer (some ⟨p, 0, none⟩)) ?_⟩
          simp [execOp, Act.eval, d0]
        | 1, ho =>
          obtain rfl := Option.some.inj ho
          have d0 : bx.tmps.getD 0 undef = .pointer (some ⟨p, 0, none⟩) := hS.base 0 (by kernel_rfl)
          refine .inl ⟨rfl, ends_value (c := .pointer (some ⟨p, 0, none⟩)) ?_⟩
          simp [execOp, Act.eval, d0]
        | 2, ho =>
          obtain rfl := Option.some.inj ho
          have d10 : bx.tmps.getD 10 undef = .pointer (some ⟨p, 0, none⟩) := hS.dep 1 10 (by kernel_rfl) (by kernel_rfl)
          refine .inl ⟨rfl, ends_value (c := .pointer (some ⟨p, 0, none⟩)) ?_⟩
          simp [execOp, Act.eval, d10]
        | 3, ho =>
          obtain rfl := Option.some.inj ho
          have d11 : bx.tmps.getD 11 undef = .pointer (some ⟨p, 0, none⟩) := hS.dep 2 11 (by kernel_rfl) (by kernel_rfl)
          refine .inl ⟨rfl, ends_value (c := .pointer (some ⟨p, 0, none⟩)) ?_⟩
          simp [Act.eval, d11, go_sem]
        | 4, ho =>
          obtain rfl := Option.some.inj ho
          have d12 : bx.tmps.getD 12 undef = .pointer (some ⟨p, 0, none⟩) := hS.dep 3 12 (by kernel_rfl) (by kernel_rfl)
          have hl := (h0.on (hbel (by kernel_rfl)) hlt).cell 0 _ (cel_get (xs := [a1, b1, s.c, s.d]) (x := a1) rfl)
          refine .inl ⟨rfl, ends_value (c := .int .u64 (nn a1)) ?_⟩
          simp [Act.eval, d12, go_sem, hl]
        | 5, ho =>
          obtain rfl := Option.some.inj ho
          have d13 : bx.tmps.getD 13 undef = .int .u64 (nn a1) := hS.dep 4 13 (by kernel_rfl) (by kernel_rfl)
          refine .inl ⟨rfl, ends_call (c := .int .u64 (nn a2)) (by kernel_rfl) (f := 24) (args := #[.int .u64 (nn a1), .int .i64 32]) ?_ ((rot_any a1 32 32 (by simp [Turn]) u).mono fun e u' ⟨he, hw⟩ => ⟨he.trans (by rw [hq]), by rw [hw]; exact Below.refl _ _⟩)⟩
          simp [Act.eval, d13, go_sem]
        | 6, ho =>
          obtain rfl := Option.some.inj ho
          have d9 : bx.tmps.getD 9 undef = .pointer (some ⟨p, 0, none⟩) := hS.dep 0 9 (by kernel_rfl) (by kernel_rfl)
          refine .inl ⟨rfl, ends_value (c := .pointer (some ⟨p, 0, none⟩)) ?_⟩
          simp [execOp, Act.eval, d9]
        | 7, ho =>
          obtain rfl := Option.some.inj ho
          have d15 : bx.tmps.getD 15 undef = .pointer (some ⟨p, 0, none⟩) := hS.dep 6 15 (by kernel_rfl) (by kernel_rfl)
          refine .inl ⟨rfl, ends_value (c := .pointer (some ⟨p, 0, none⟩)) ?_⟩
          simp [Act.eval, d15, go_sem]
        | 8, _ => exact absurd rfl hne
        | n + 9, ho => exact absurd ho (by simp)
      case store =>
        intro o bx u ho hbel hS
        obtain rfl := Option.some.inj ho
        have d16 : bx.tmps.getD 16 undef = .pointer (some ⟨p, 0, none⟩) := hS.dep 7 16 (by kernel_rfl) (by kernel_rfl)
        have d14 : bx.tmps.getD 14 undef = .int .u64 (nn a2) := hS.dep 5 14 (by kernel_rfl) (by kernel_rfl)
        have c1 := (h0.on hbel hlt).cell 0 _ (cel_get (xs := [a1, b1, s.c, s.d]) (x := a1) rfl)
        have c2 := (h0.on hbel hlt).free 0
        refine ⟨rfl, ?_⟩
        simp [Act.eval, d16, d14, go_sem, c1, c2]
      case fin =>
        intro u hbel
        simp [putAll, dstAt, Act.put]
        have hr1 : Row (u.setCell ⟨p, 0, none⟩ (.int .u64 (nn a2))) p (cel [a2, b1, s.c, s.d]) := by
          have := (h0.on hbel hlt).set 0 (.int .u64 (nn a2))
          rw [cel_set] at this
          exact this
        have hb1 : But [p] w (u.setCell ⟨p, 0, none⟩ (.int .u64 (nn a2))) := (hB0.on hbel).setCell (List.mem_singleton.2 rfl) 0 _
        generalize u.setCell ⟨p, 0, none⟩ (.int .u64 (nn a2)) = w2 at *
        have HR := hide hr1
        have HB := hide hb1
        clear hr1 hb1 hbel hlt h0 hB0 u
        go_wp2_with fail
        refine (stir_any p 2 3 16 16 [a2, b1, s.c, s.d] s.c s.d _ (unhide HR) rfl rfl (by decide) (by decide) (by decide) (by simp [Turn])).mono ?_
        rintro e1 w2 ⟨rfl, hr1, hb1⟩
        have hr2 : Row w2 p (cel [a2, b1, c1, d1]) := by rw [unhide Ed1, unhide Ec1]; exact hr1
        have HR := hide hr2
        have HB := hide ((unhide HB).trans hb1)
        clear hr1 hr2 hb1
        go_wp2_with fail
        refine (stir_any p 0 3 21 21 [a2, b1, c1, d1] a2 d1 _ (unhide HR) rfl rfl (by decide) (by decide) (by decide) (by simp [Turn])).mono ?_
        rintro e1 w2 ⟨rfl, hr1, hb1⟩
        have hr2 : Row w2 p (cel [a3, b1, c1, d2]) := by rw [unhide Ed2, unhide Ea3]; exact hr1
        have HR := hide hr2
        have HB := hide ((unhide HB).trans hb1)
        clear hr1 hr2 hb1
        go_wp2_with fail
        refine (stir_any p 2 1 17 17 [a3, b1, c1, d2] c1 b1 _ (unhide HR) rfl rfl (by decide) (by decide) (by decide) (by simp [Turn])).mono ?_
        rintro e1 w2 ⟨rfl, hr1, hb1⟩
        have hr2 : Row w2 p (cel [a3, b2, c2, d2]) := by rw [unhide Eb2, unhide Ec2]; exact hr1
        have HR := hide hr2
        have HB := hide ((unhide HB).trans hb1)
        clear hr1 hr2 hb1
        go_wp2_with fail
        have hlt := (unhide HR).lt
        have h0 : Row _ p (cel [a3, b2, c2, d2]) := (unhide HR)
        have hB0 := (unhide HB).drew
        have hq := unhide Ec3
        have h0 := row_drew h0
        clear HR HB
        refine wp_region_grow_store (by kernel_rfl) [.pointer (some ⟨p, 0, none⟩), .pointer (some ⟨p, 0, none⟩), .pointer (some ⟨p, 0, none⟩), .pointer (some ⟨p, 2, none⟩), .int .u64 (nn c2), .int .u64 (nn c3), .pointer (some ⟨p, 0, none⟩), .pointer (some ⟨p, 2, none⟩), undef] 8 (fun v => v.setCell ⟨p, 2, none⟩ (.int .u64 (nn c3))) (by kernel_rfl) (by decide) rfl ?op ?store ?fin
        case op =>
          intro i o bx u ho hne hbel hS
          match i, ho with
          | 0, ho =>
            obtain rfl := Option.some.inj ho
            have d0 : bx.tmps.getD 0 undef = .pointer (some ⟨p, 0, none⟩) := hS.base 0 (by kernel_rfl)
            refine .inl ⟨rfl, ends_value (c := .pointer (some ⟨p, 0, none⟩)) ?_⟩
            simp [execOp, Act.eval, d0]
          | 1, ho =>
            obtain rfl := Option.some.inj ho
            have d0 : bx.tmps.getD 0 undef = .pointer (some ⟨p, 0, none⟩) := hS.base 0 (by kernel_rfl)
            refine .inl ⟨rfl, ends_value (c := .pointer (some ⟨p, 0, none⟩)) ?_⟩
            simp [execOp, Act.eval, d0]
          | 2, ho =>
            obtain rfl := Option.some.inj ho
            have d24 : bx.tmps.getD 24 undef = .pointer (some ⟨p, 0, none⟩) := hS.dep 1 24 (by kernel_rfl) (by kernel_rfl)
            refine .inl ⟨rfl, ends_value (c := .pointer (some ⟨p, 0, none⟩)) ?_⟩
            simp [execOp, Act.eval, d24]
          | 3, ho =>
            obtain rfl := Option.some.inj ho
            have d25 : bx.tmps.getD 25 undef = .pointer (some ⟨p, 0, none⟩) := hS.dep 2 25 (by kernel_rfl) (by kernel_rfl)
            refine .inl ⟨rfl, ends_value (c := .pointer (some ⟨p, 2, none⟩)) ?_⟩
            simp [Act.eval, d25, go_sem]
          | 4, ho =>
            obtain rfl := Option.some.inj ho
            have d26 : bx.tmps.getD 26 undef = .pointer (some ⟨p, 2, none⟩) := hS.dep 3 26 (by kernel_rfl) (by kernel_rfl)
            have hl := (h0.on (hbel (by kernel_rfl)) hlt).cell 2 _ (cel_get (xs := [a3, b2, c2, d2]) (x := c2) rfl)
            refine .inl ⟨rfl, ends_value (c := .int .u64 (nn c2)) ?_⟩
            simp [Act.eval, d26, go_sem, hl]
          | 5, ho =>
            obtain rfl := Option.some.inj ho
            have d27 : bx.tmps.getD 27 undef = .int .u64 (nn c2) := hS.dep 4 27 (by kernel_rfl) (by kernel_rfl)
            refine .inl ⟨rfl, ends_call (c := .int .u64 (nn c3)) (by kernel_rfl) (f := 24) (args := #[.int .u64 (nn c2), .int .i64 32]) ?_ ((rot_any c2 32 32 (by simp [Turn]) u).mono fun e u' ⟨he, hw⟩ => ⟨he.trans (by rw [hq]), by rw [hw]; exact Below.refl _ _⟩)⟩
            simp [Act.eval, d27, go_sem]
          | 6, ho =>
            obtain rfl := Option.some.inj ho
            have d23 : bx.tmps.getD 23 undef = .pointer (some ⟨p, 0, none⟩) := hS.dep 0 23 (by kernel_rfl) (by kernel_rfl)
            refine .inl ⟨rfl, ends_value (c := .pointer (some ⟨p, 0, none⟩)) ?_⟩
            simp [execOp, Act.eval, d23]
          | 7, ho =>
            obtain rfl := Option.some.inj ho
            have d29 : bx.tmps.getD 29 undef = .pointer (some ⟨p, 0, none⟩) := hS.dep 6 29 (by kernel_rfl) (by kernel_rfl)
            refine .inl ⟨rfl, ends_value (c := .pointer (some ⟨p, 2, none⟩)) ?_⟩
            simp [Act.eval, d29, go_sem]
          | 8, _ => exact absurd rfl hne
          | n + 9, ho => exact absurd ho (by simp)
        case store =>
          intro o bx u ho hbel hS
          obtain rfl := Option.some.inj ho
          have d30 : bx.tmps.getD 30 undef = .pointer (some ⟨p, 2, none⟩) := hS.dep 7 30 (by kernel_rfl) (by kernel_rfl)
          have d28 : bx.tmps.getD 28 undef = .int .u64 (nn c3) := hS.dep 5 28 (by kernel_rfl) (by kernel_rfl)
          have c1 := (h0.on hbel hlt).cell 2 _ (cel_get (xs := [a3, b2, c2, d2]) (x := c2) rfl)
          have c2 := (h0.on hbel hlt).free 2
          refine ⟨rfl, ?_⟩
          simp [Act.eval, d30, d28, go_sem, c1, c2]
        case fin =>
          intro u hbel
          simp [putAll, dstAt, Act.put]
          have hr1 : Row (u.setCell ⟨p, 2, none⟩ (.int .u64 (nn c3))) p (cel [a3, b2, c3, d2]) := by
            have := (h0.on hbel hlt).set 2 (.int .u64 (nn c3))
            rw [cel_set] at this
            exact this
          have hb1 : But [p] w (u.setCell ⟨p, 2, none⟩ (.int .u64 (nn c3))) := (hB0.on hbel).setCell (List.mem_singleton.2 rfl) 2 _
          generalize u.setCell ⟨p, 2, none⟩ (.int .u64 (nn c3)) = w2 at *
          have HR := hide hr1
          have HB := hide hb1
          clear hr1 hb1 hbel hlt h0 hB0 u
          go_wp2_with fail
          go_roundw
          case rel => exact ⟨i + 1, by omega, by go_num, by rw [rndN, ← hs, unhide HN]; exact unhide HR, unhide HB⟩
          case measure => simp [intOf]; omega
    · have hd : decide ((i : Int) < n) = false := by simp; omega
      have HE : Hid (rndN i s0 = rndN n s0) := by show _ = _; rw [show i = n by omega]
      go_wp2_with fail
      go_end0
      exact ⟨rfl, by rw [← unhide HE]; exact unhide HR, unhide HB⟩
end Go.Proofs.Ytbiilgdgmedpkaa
