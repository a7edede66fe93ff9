/- round of the reference. -/
import Derived.Test.YtbiilgdgmedpkaaSpRounds
namespace Go.Proofs.Ytbiilgdgmedpkaa
open Go.ChangeShapes Go.WideShapes Go.ChangeAt Go.RowKit Sp

set_option maxHeartbeats 2000000 in
theorem round_any (s : St) (w : World) :
    Calls Try.prog 20 #[.agg #[.int .u64 (nn s.a), .int .u64 (nn s.b), .int .u64 (nn s.c), .int .u64 (nn s.d)]] w fun e w' =>
      e = .returned (.agg #[.int .u64 (nn (rnd s).a), .int .u64 (nn (rnd s).b), .int .u64 (nn (rnd s).c), .int .u64 (nn (rnd s).d)]) ∧ Below w.heap.size w w' := by
  obtain ⟨a1, Ea1⟩ : ∃ x, Hid (x = s.a + s.b) := ⟨_, rfl⟩
  obtain ⟨r1, Er1⟩ : ∃ x, Hid (x = rotl s.b 13) := ⟨_, rfl⟩
  obtain ⟨b1, Fb1⟩ : ∃ x, Hid (x = r1 ^^^ a1) := ⟨_, rfl⟩
  obtain ⟨a2, Ea2⟩ : ∃ x, Hid (x = rotl a1 32) := ⟨_, rfl⟩
  obtain ⟨c1, Ec1⟩ : ∃ x, Hid (x = s.c + s.d) := ⟨_, rfl⟩
  obtain ⟨r2, Er2⟩ : ∃ x, Hid (x = rotl s.d 16) := ⟨_, rfl⟩
  obtain ⟨d1, Fd1⟩ : ∃ x, Hid (x = r2 ^^^ c1) := ⟨_, rfl⟩
  obtain ⟨a3, Ea3⟩ : ∃ x, Hid (x = a2 + d1) := ⟨_, rfl⟩
  obtain ⟨r3, Er3⟩ : ∃ x, Hid (x = rotl d1 21) := ⟨_, rfl⟩
  obtain ⟨d2, Fd2⟩ : ∃ x, Hid (x = r3 ^^^ a3) := ⟨_, rfl⟩
  obtain ⟨c2, Ec2⟩ : ∃ x, Hid (x = c1 + b1) := ⟨_, rfl⟩
  obtain ⟨r4, Er4⟩ : ∃ x, Hid (x = rotl b1 17) := ⟨_, rfl⟩
  obtain ⟨b2, Fb2⟩ : ∃ x, Hid (x = r4 ^^^ c2) := ⟨_, rfl⟩
  obtain ⟨c3, Ec3⟩ : ∃ x, Hid (x = rotl c2 32) := ⟨_, rfl⟩
  have HN : Hid (rnd s = ⟨a3, b2, c3, d2⟩) := by show _ = _; rw [unhide Ec3, unhide Fb2, unhide Er4, unhide Ec2, unhide Fd2, unhide Er3, unhide Ea3, unhide Fd1, unhide Er2, unhide Ec1, unhide Ea2, unhide Fb1, unhide Er1, unhide Ea1]; rfl
  have e1 : IntKind.u64.wrap (nn s.a + nn s.b) = nn a1 := by rw [unhide Ea1]; exact wrap_add _ _
  have e2 : IntKind.u64.wrap (nn s.c + nn s.d) = nn c1 := by rw [unhide Ec1]; exact wrap_add _ _
  have e3 : IntKind.u64.wrap (nn a2 + nn d1) = nn a3 := by rw [unhide Ea3]; exact wrap_add _ _
  have e4 : IntKind.u64.wrap (nn c1 + nn b1) = nn c2 := by rw [unhide Ec2]; exact wrap_add _ _
  have Eb1 : Hid (bits .xor .u64 (nn r1) (nn a1) = nn b1) := by show _ = _; rw [unhide Fb1]; exact xor_nn _ _
  have Ed1 : Hid (bits .xor .u64 (nn r2) (nn c1) = nn d1) := by show _ = _; rw [unhide Fd1]; exact xor_nn _ _
  have Ed2 : Hid (bits .xor .u64 (nn r3) (nn a3) = nn d2) := by show _ = _; rw [unhide Fd2]; exact xor_nn _ _
  have Eb2 : Hid (bits .xor .u64 (nn r4) (nn c2) = nn b2) := by show _ = _; rw [unhide Fb2]; exact xor_nn _ _
  clear Ea1 Fb1 Ec1 Fd1 Ea3 Fd2 Ec2 Fb2
  go_enter Try.func20, Try.ntmps20
  go_wp2_with fail
  obtain ⟨V, hV⟩ : ∃ V, (w.alloc (.cells #[.int .u64 (nn a1), .int .u64 (nn s.b), .int .u64 (nn s.c), .int .u64 (nn s.d)] 42)).alloc (.cells #[.int .u64 0, .int .u64 0, .int .u64 0, .int .u64 0] 42) = V := ⟨_, rfl⟩
  obtain ⟨p, hp⟩ : ∃ b, w.heap.size = b := ⟨_, rfl⟩
  obtain ⟨z, hz⟩ : ∃ b, p + 1 = b := ⟨_, rfl⟩
  have hr1 : Row V p (cel [a1, s.b, s.c, s.d]) := by
    rw [← hV, ← hp]
    exact (row_new w (cel [a1, s.b, s.c, s.d]) 42).on' ((Below.refl _ _).alloc (Nat.le_refl _) _)
  have hz1 : Row V z (cel [0#64, 0#64, 0#64, 0#64]) := by
    rw [← hV, ← hz, ← hp]
    have := row_new (w.alloc (.cells #[.int .u64 (nn a1), .int .u64 (nn s.b), .int .u64 (nn s.c), .int .u64 (nn s.d)] 42)) (cel [0#64, 0#64, 0#64, 0#64]) 42
    have e : (w.alloc (.cells #[.int .u64 (nn a1), .int .u64 (nn s.b), .int .u64 (nn s.c), .int .u64 (nn s.d)] 42)).heap.size = w.heap.size + 1 := by simp
    rw [e] at this
    exact this
  have hb1 : But [p, z] w V := by rw [← hV]; exact But.of (((Below.refl _ _).alloc (Nat.le_refl _) _).alloc (by simp) _)
  have hpz : z ≠ p := by omega
  simp only [hV, hp, hz]
  clear hV
  have HR := hide hr1
  have HZ := hide hz1
  have HB := hide hb1
  clear hr1 hz1 hb1
  have hlt := (unhide HR).lt
  have h0 := row_drew (unhide HR)
  have z0 := row_drew (unhide HZ)
  have hB0 := (unhide HB).drew
  have hq := unhide Eb1
  clear HR HZ HB
  refine wp_region_grow_store (by kernel_rfl) [.pointer (some ⟨p, 1, none⟩), .int .u64 (nn s.b), .int .u64 (nn r1), .pointer (some ⟨p, 0, none⟩), .int .u64 (nn a1), .int .u64 (nn b1), .pointer (some ⟨p, 1, none⟩), undef] 7 (fun v => v.setCell ⟨p, 1, none⟩ (.int .u64 (nn b1))) (by kernel_rfl) (by decide) rfl ?op ?store ?fin
  case op =>
    intro i o bx u ho hne hbel hS
    match i, ho with
    | 0, ho =>
      obtain rfl := Option.some.inj ho
      have d1 : bx.tmps.getD 1 undef = .pointer (some ⟨p, 0, none⟩) := hS.base 1 (by kernel_rfl)
      refine .inl ⟨rfl, ends_value (c := .pointer (some ⟨p, 1, none⟩)) ?_⟩
      simp [Act.eval, d1, go_sem]
    | 1, ho =>
      obtain rfl := Option.some.inj ho
      have d9 : bx.tmps.getD 9 undef = .pointer (some ⟨p, 1, none⟩) := hS.dep 0 9 (by kernel_rfl) (by kernel_rfl)
      have hl := (h0.on (hbel (by kernel_rfl)) hlt).cell 1 _ (cel_get (xs := [a1, s.b, s.c, s.d]) (x := s.b) rfl)
      refine .inl ⟨rfl, ends_value (c := .int .u64 (nn s.b)) ?_⟩
      simp [Act.eval, d9, go_sem, hl]
    | 2, ho =>
      obtain rfl := Option.some.inj ho
      have d10 : bx.tmps.getD 10 undef = .int .u64 (nn s.b) := hS.dep 1 10 (by kernel_rfl) (by kernel_rfl)
      refine .inl ⟨rfl, ends_call (c := .int .u64 (nn r1)) (by kernel_rfl) (f := 22) (args := #[.int .u64 (nn s.b), .int .u64 13]) ?_ ((left_any s.b 13 13 (by simp [Turn]) u).mono fun e u' ⟨he, hw⟩ => ⟨he.trans (by rw [unhide Er1]), by rw [hw]; exact Below.refl _ _⟩)⟩
      simp [Act.eval, d10, go_sem]
    | 3, ho =>
      obtain rfl := Option.some.inj ho
      have d1 : bx.tmps.getD 1 undef = .pointer (some ⟨p, 0, none⟩) := hS.base 1 (by kernel_rfl)
      refine .inl ⟨rfl, ends_value (c := .pointer (some ⟨p, 0, none⟩)) ?_⟩
      simp [Act.eval, d1, go_sem]
    | 4, ho =>
      obtain rfl := Option.some.inj ho
      have d12 : bx.tmps.getD 12 undef = .pointer (some ⟨p, 0, none⟩) := hS.dep 3 12 (by kernel_rfl) (by kernel_rfl)
      have hl := (h0.on (hbel (by kernel_rfl)) hlt).cell 0 _ (cel_get (xs := [a1, s.b, s.c, s.d]) (x := a1) rfl)
      refine .inl ⟨rfl, ends_value (c := .int .u64 (nn a1)) ?_⟩
      simp [Act.eval, d12, go_sem, hl]
    | 5, ho =>
      obtain rfl := Option.some.inj ho
      have d11 : bx.tmps.getD 11 undef = .int .u64 (nn r1) := hS.dep 2 11 (by kernel_rfl) (by kernel_rfl)
      have d13 : bx.tmps.getD 13 undef = .int .u64 (nn a1) := hS.dep 4 13 (by kernel_rfl) (by kernel_rfl)
      refine .inl ⟨rfl, ends_value (c := .int .u64 (nn b1)) ?_⟩
      simp [Act.eval, d11, d13, go_sem, hq]
    | 6, ho =>
      obtain rfl := Option.some.inj ho
      have d1 : bx.tmps.getD 1 undef = .pointer (some ⟨p, 0, none⟩) := hS.base 1 (by kernel_rfl)
      refine .inl ⟨rfl, ends_value (c := .pointer (some ⟨p, 1, none⟩)) ?_⟩
      simp [Act.eval, d1, go_sem]
    | 7, _ => exact absurd rfl hne
    | n + 8, ho => exact absurd ho (by simp)
  case store =>
    intro o bx u ho hbel hS
    obtain rfl := Option.some.inj ho
    have d15 : bx.tmps.getD 15 undef = .pointer (some ⟨p, 1, none⟩) := hS.dep 6 15 (by kernel_rfl) (by kernel_rfl)
    have d14 : bx.tmps.getD 14 undef = .int .u64 (nn b1) := hS.dep 5 14 (by kernel_rfl) (by kernel_rfl)
    have k1 := (h0.on hbel hlt).cell 1 _ (cel_get (xs := [a1, s.b, s.c, s.d]) (x := s.b) rfl)
    have k2 := (h0.on hbel hlt).free 1
    refine ⟨rfl, ?_⟩
    simp [Act.eval, d15, d14, go_sem, k1, k2]
  case fin =>
    intro u hbel
    simp [putAll, dstAt, Act.put]
    have hr1 : Row (u.setCell ⟨p, 1, none⟩ (.int .u64 (nn b1))) p (cel [a1, b1, s.c, s.d]) := by
      have := (h0.on hbel hlt).set 1 (.int .u64 (nn b1))
      rw [cel_set] at this
      exact this
    have hz1 : Row (u.setCell ⟨p, 1, none⟩ (.int .u64 (nn b1))) z (cel [0#64, 0#64, 0#64, 0#64]) := (z0.on hbel z0.lt).other hpz 1 _
    have hb1 : But [p, z] w (u.setCell ⟨p, 1, none⟩ (.int .u64 (nn b1))) := (hB0.on hbel).setCell (g := p) (by simp) 1 _
    generalize u.setCell ⟨p, 1, none⟩ (.int .u64 (nn b1)) = V1 at *
    clear hq h0 z0 hB0 hbel hlt
    have HR := hide hr1
    have HZ := hide hz1
    have HB := hide hb1
    have cc0 := hr1.cell 0 _ (cel_get (xs := [a1, b1, s.c, s.d]) (x := a1) rfl)
    have yy0 := hr1.free 0
    have cc1 := hr1.cell 1 _ (cel_get (xs := [a1, b1, s.c, s.d]) (x := b1) rfl)
    have yy1 := hr1.free 1
    have cc2 := hr1.cell 2 _ (cel_get (xs := [a1, b1, s.c, s.d]) (x := s.c) rfl)
    have yy2 := hr1.free 2
    have cc3 := hr1.cell 3 _ (cel_get (xs := [a1, b1, s.c, s.d]) (x := s.d) rfl)
    have yy3 := hr1.free 3
    clear hr1 hz1 hb1
    go_wp2_with fail
    refine (left_any a1 32 32 (by simp [Turn]) _).mono ?_
    rintro e w2 ⟨rfl, rfl⟩
    rw [← unhide Ea2]
    go_wp2_with fail
    have hr1 := unhide HR
    have hz1 := unhide HZ
    have hb1 := unhide HB
    clear HR HZ HB
    have hr1 : Row ((w2).setCell ⟨p, 0, none⟩ (.int .u64 (nn a2))) p (cel [a2, b1, s.c, s.d]) := by
      have := hr1.set 0 (.int .u64 (nn a2))
      rw [cel_set] at this
      exact this
    have hz1 : Row ((w2).setCell ⟨p, 0, none⟩ (.int .u64 (nn a2))) z (cel [0#64, 0#64, 0#64, 0#64]) := hz1.other hpz 0 _
    have hb1 : But [p, z] w ((w2).setCell ⟨p, 0, none⟩ (.int .u64 (nn a2))) := hb1.setCell (g := p) (by simp) 0 _
    have hr1 : Row (((w2).setCell ⟨p, 0, none⟩ (.int .u64 (nn a2))).setCell ⟨p, 2, none⟩ (.int .u64 (nn c1))) p (cel [a2, b1, c1, s.d]) := by
      have := hr1.set 2 (.int .u64 (nn c1))
      rw [cel_set] at this
      exact this
    have hz1 : Row (((w2).setCell ⟨p, 0, none⟩ (.int .u64 (nn a2))).setCell ⟨p, 2, none⟩ (.int .u64 (nn c1))) z (cel [0#64, 0#64, 0#64, 0#64]) := hz1.other hpz 2 _
    have hb1 : But [p, z] w (((w2).setCell ⟨p, 0, none⟩ (.int .u64 (nn a2))).setCell ⟨p, 2, none⟩ (.int .u64 (nn c1))) := hb1.setCell (g := p) (by simp) 2 _
    generalize ((w2).setCell ⟨p, 0, none⟩ (.int .u64 (nn a2))).setCell ⟨p, 2, none⟩ (.int .u64 (nn c1)) = V2 at *
    have HR := hide hr1
    have HZ := hide hz1
    have HB := hide hb1
    clear hr1 hz1 hb1 cc0 cc1 cc2 cc3 yy0 yy1 yy2 yy3
    have hlt := (unhide HR).lt
    have h0 := row_drew (unhide HR)
    have z0 := row_drew (unhide HZ)
    have hB0 := (unhide HB).drew
    have hq := unhide Ed1
    clear HR HZ HB
    refine wp_region_grow_store (by kernel_rfl) [.pointer (some ⟨p, 3, none⟩), .int .u64 (nn s.d), .int .u64 (nn r2), .pointer (some ⟨p, 2, none⟩), .int .u64 (nn c1), .int .u64 (nn d1), .pointer (some ⟨p, 3, none⟩), undef] 7 (fun v => v.setCell ⟨p, 3, none⟩ (.int .u64 (nn d1))) (by kernel_rfl) (by decide) rfl ?op ?store ?fin
    case op =>
      intro i o bx u ho hne hbel hS
      match i, ho with
      | 0, ho =>
        obtain rfl := Option.some.inj ho
        have d1 : bx.tmps.getD 1 undef = .pointer (some ⟨p, 0, none⟩) := hS.base 1 (by kernel_rfl)
        refine .inl ⟨rfl, ends_value (c := .pointer (some ⟨p, 3, none⟩)) ?_⟩
        simp [Act.eval, d1, go_sem]
      | 1, ho =>
        obtain rfl := Option.some.inj ho
        have d26 : bx.tmps.getD 26 undef = .pointer (some ⟨p, 3, none⟩) := hS.dep 0 26 (by kernel_rfl) (by kernel_rfl)
        have hl := (h0.on (hbel (by kernel_rfl)) hlt).cell 3 _ (cel_get (xs := [a2, b1, c1, s.d]) (x := s.d) rfl)
        refine .inl ⟨rfl, ends_value (c := .int .u64 (nn s.d)) ?_⟩
        simp [Act.eval, d26, go_sem, hl]
      | 2, ho =>
        obtain rfl := Option.some.inj ho
        have d27 : bx.tmps.getD 27 undef = .int .u64 (nn s.d) := hS.dep 1 27 (by kernel_rfl) (by kernel_rfl)
        refine .inl ⟨rfl, ends_call (c := .int .u64 (nn r2)) (by kernel_rfl) (f := 22) (args := #[.int .u64 (nn s.d), .int .u64 16]) ?_ ((left_any s.d 16 16 (by simp [Turn]) u).mono fun e u' ⟨he, hw⟩ => ⟨he.trans (by rw [unhide Er2]), by rw [hw]; exact Below.refl _ _⟩)⟩
        simp [Act.eval, d27, go_sem]
      | 3, ho =>
        obtain rfl := Option.some.inj ho
        have d1 : bx.tmps.getD 1 undef = .pointer (some ⟨p, 0, none⟩) := hS.base 1 (by kernel_rfl)
        refine .inl ⟨rfl, ends_value (c := .pointer (some ⟨p, 2, none⟩)) ?_⟩
        simp [Act.eval, d1, go_sem]
      | 4, ho =>
        obtain rfl := Option.some.inj ho
        have d29 : bx.tmps.getD 29 undef = .pointer (some ⟨p, 2, none⟩) := hS.dep 3 29 (by kernel_rfl) (by kernel_rfl)
        have hl := (h0.on (hbel (by kernel_rfl)) hlt).cell 2 _ (cel_get (xs := [a2, b1, c1, s.d]) (x := c1) rfl)
        refine .inl ⟨rfl, ends_value (c := .int .u64 (nn c1)) ?_⟩
        simp [Act.eval, d29, go_sem, hl]
      | 5, ho =>
        obtain rfl := Option.some.inj ho
        have d28 : bx.tmps.getD 28 undef = .int .u64 (nn r2) := hS.dep 2 28 (by kernel_rfl) (by kernel_rfl)
        have d30 : bx.tmps.getD 30 undef = .int .u64 (nn c1) := hS.dep 4 30 (by kernel_rfl) (by kernel_rfl)
        refine .inl ⟨rfl, ends_value (c := .int .u64 (nn d1)) ?_⟩
        simp [Act.eval, d28, d30, go_sem, hq]
      | 6, ho =>
        obtain rfl := Option.some.inj ho
        have d1 : bx.tmps.getD 1 undef = .pointer (some ⟨p, 0, none⟩) := hS.base 1 (by kernel_rfl)
        refine .inl ⟨rfl, ends_value (c := .pointer (some ⟨p, 3, none⟩)) ?_⟩
        simp [Act.eval, d1, go_sem]
      | 7, _ => exact absurd rfl hne
      | n + 8, ho => exact absurd ho (by simp)
    case store =>
      intro o bx u ho hbel hS
      obtain rfl := Option.some.inj ho
      have d32 : bx.tmps.getD 32 undef = .pointer (some ⟨p, 3, none⟩) := hS.dep 6 32 (by kernel_rfl) (by kernel_rfl)
      have d31 : bx.tmps.getD 31 undef = .int .u64 (nn d1) := hS.dep 5 31 (by kernel_rfl) (by kernel_rfl)
      have k1 := (h0.on hbel hlt).cell 3 _ (cel_get (xs := [a2, b1, c1, s.d]) (x := s.d) rfl)
      have k2 := (h0.on hbel hlt).free 3
      refine ⟨rfl, ?_⟩
      simp [Act.eval, d32, d31, go_sem, k1, k2]
    case fin =>
      intro u hbel
      simp [putAll, dstAt, Act.put]
      have hr1 : Row (u.setCell ⟨p, 3, none⟩ (.int .u64 (nn d1))) p (cel [a2, b1, c1, d1]) := by
        have := (h0.on hbel hlt).set 3 (.int .u64 (nn d1))
        rw [cel_set] at this
        exact this
      have hz1 : Row (u.setCell ⟨p, 3, none⟩ (.int .u64 (nn d1))) z (cel [0#64, 0#64, 0#64, 0#64]) := (z0.on hbel z0.lt).other hpz 3 _
      have hb1 : But [p, z] w (u.setCell ⟨p, 3, none⟩ (.int .u64 (nn d1))) := (hB0.on hbel).setCell (g := p) (by simp) 3 _
      generalize u.setCell ⟨p, 3, none⟩ (.int .u64 (nn d1)) = V3 at *
      clear hq h0 z0 hB0 hbel hlt
      have HR := hide hr1
      have HZ := hide hz1
      have HB := hide hb1
      have cc0 := hr1.cell 0 _ (cel_get (xs := [a2, b1, c1, d1]) (x := a2) rfl)
      have yy0 := hr1.free 0
      have cc1 := hr1.cell 1 _ (cel_get (xs := [a2, b1, c1, d1]) (x := b1) rfl)
      have yy1 := hr1.free 1
      have cc2 := hr1.cell 2 _ (cel_get (xs := [a2, b1, c1, d1]) (x := c1) rfl)
      have yy2 := hr1.free 2
      have cc3 := hr1.cell 3 _ (cel_get (xs := [a2, b1, c1, d1]) (x := d1) rfl)
      have yy3 := hr1.free 3
      clear hr1 hz1 hb1
      go_wp2_with fail
      have hr1 := unhide HR
      have hz1 := unhide HZ
      have hb1 := unhide HB
      clear HR HZ HB
      have hr1 : Row ((V3).setCell ⟨p, 0, none⟩ (.int .u64 (nn a3))) p (cel [a3, b1, c1, d1]) := by
        have := hr1.set 0 (.int .u64 (nn a3))
        rw [cel_set] at this
        exact this
      have hz1 : Row ((V3).setCell ⟨p, 0, none⟩ (.int .u64 (nn a3))) z (cel [0#64, 0#64, 0#64, 0#64]) := hz1.other hpz 0 _
      have hb1 : But [p, z] w ((V3).setCell ⟨p, 0, none⟩ (.int .u64 (nn a3))) := hb1.setCell (g := p) (by simp) 0 _
      generalize (V3).setCell ⟨p, 0, none⟩ (.int .u64 (nn a3)) = V4 at *
      have HR := hide hr1
      have HZ := hide hz1
      have HB := hide hb1
      clear hr1 hz1 hb1 cc0 cc1 cc2 cc3 yy0 yy1 yy2 yy3
      have hlt := (unhide HR).lt
      have h0 := row_drew (unhide HR)
      have z0 := row_drew (unhide HZ)
      have hB0 := (unhide HB).drew
      have hq := unhide Ed2
      clear HR HZ HB
      refine wp_region_grow_store (by kernel_rfl) [.pointer (some ⟨p, 3, none⟩), .int .u64 (nn d1), .int .u64 (nn r3), .pointer (some ⟨p, 0, none⟩), .int .u64 (nn a3), .int .u64 (nn d2), .pointer (some ⟨p, 3, none⟩), undef] 7 (fun v => v.setCell ⟨p, 3, none⟩ (.int .u64 (nn d2))) (by kernel_rfl) (by decide) rfl ?op ?store ?fin
      case op =>
        intro i o bx u ho hne hbel hS
        match i, ho with
        | 0, ho =>
          obtain rfl := Option.some.inj ho
          have d1 : bx.tmps.getD 1 undef = .pointer (some ⟨p, 0, none⟩) := hS.base 1 (by kernel_rfl)
          refine .inl ⟨rfl, ends_value (c := .pointer (some ⟨p, 3, none⟩)) ?_⟩
          simp [Act.eval, d1, go_sem]
        | 1, ho =>
          obtain rfl := Option.some.inj ho
          have d39 : bx.tmps.getD 39 undef = .pointer (some ⟨p, 3, none⟩) := hS.dep 0 39 (by kernel_rfl) (by kernel_rfl)
          have hl := (h0.on (hbel (by kernel_rfl)) hlt).cell 3 _ (cel_get (xs := [a3, b1, c1, d1]) (x := d1) rfl)
          refine .inl ⟨rfl, ends_value (c := .int .u64 (nn d1)) ?_⟩
          simp [Act.eval, d39, go_sem, hl]
        | 2, ho =>
          obtain rfl := Option.some.inj ho
          have d40 : bx.tmps.getD 40 undef = .int .u64 (nn d1) := hS.dep 1 40 (by kernel_rfl) (by kernel_rfl)
          refine .inl ⟨rfl, ends_call (c := .int .u64 (nn r3)) (by kernel_rfl) (f := 22) (args := #[.int .u64 (nn d1), .int .u64 21]) ?_ ((left_any d1 21 21 (by simp [Turn]) u).mono fun e u' ⟨he, hw⟩ => ⟨he.trans (by rw [unhide Er3]), by rw [hw]; exact Below.refl _ _⟩)⟩
          simp [Act.eval, d40, go_sem]
        | 3, ho =>
          obtain rfl := Option.some.inj ho
          have d1 : bx.tmps.getD 1 undef = .pointer (some ⟨p, 0, none⟩) := hS.base 1 (by kernel_rfl)
          refine .inl ⟨rfl, ends_value (c := .pointer (some ⟨p, 0, none⟩)) ?_⟩
          simp [Act.eval, d1, go_sem]
        | 4, ho =>
          obtain rfl := Option.some.inj ho
          have d42 : bx.tmps.getD 42 undef = .pointer (some ⟨p, 0, none⟩) := hS.dep 3 42 (by kernel_rfl) (by kernel_rfl)
          have hl := (h0.on (hbel (by kernel_rfl)) hlt).cell 0 _ (cel_get (xs := [a3, b1, c1, d1]) (x := a3) rfl)
          refine .inl ⟨rfl, ends_value (c := .int .u64 (nn a3)) ?_⟩
          simp [Act.eval, d42, go_sem, hl]
        | 5, ho =>
          obtain rfl := Option.some.inj ho
          have d41 : bx.tmps.getD 41 undef = .int .u64 (nn r3) := hS.dep 2 41 (by kernel_rfl) (by kernel_rfl)
          have d43 : bx.tmps.getD 43 undef = .int .u64 (nn a3) := hS.dep 4 43 (by kernel_rfl) (by kernel_rfl)
          refine .inl ⟨rfl, ends_value (c := .int .u64 (nn d2)) ?_⟩
          simp [Act.eval, d41, d43, go_sem, hq]
        | 6, ho =>
          obtain rfl := Option.some.inj ho
          have d1 : bx.tmps.getD 1 undef = .pointer (some ⟨p, 0, none⟩) := hS.base 1 (by kernel_rfl)
          refine .inl ⟨rfl, ends_value (c := .pointer (some ⟨p, 3, none⟩)) ?_⟩
          simp [Act.eval, d1, go_sem]
        | 7, _ => exact absurd rfl hne
        | n + 8, ho => exact absurd ho (by simp)
      case store =>
        intro o bx u ho hbel hS
        obtain rfl := Option.some.inj ho
        have d45 : bx.tmps.getD 45 undef = .pointer (some ⟨p, 3, none⟩) := hS.dep 6 45 (by kernel_rfl) (by kernel_rfl)
        have d44 : bx.tmps.getD 44 undef = .int .u64 (nn d2) := hS.dep 5 44 (by kernel_rfl) (by kernel_rfl)
        have k1 := (h0.on hbel hlt).cell 3 _ (cel_get (xs := [a3, b1, c1, d1]) (x := d1) rfl)
        have k2 := (h0.on hbel hlt).free 3
        refine ⟨rfl, ?_⟩
        simp [Act.eval, d45, d44, go_sem, k1, k2]
      case fin =>
        intro u hbel
        simp [putAll, dstAt, Act.put]
        have hr1 : Row (u.setCell ⟨p, 3, none⟩ (.int .u64 (nn d2))) p (cel [a3, b1, c1, d2]) := by
          have := (h0.on hbel hlt).set 3 (.int .u64 (nn d2))
          rw [cel_set] at this
          exact this
        have hz1 : Row (u.setCell ⟨p, 3, none⟩ (.int .u64 (nn d2))) z (cel [0#64, 0#64, 0#64, 0#64]) := (z0.on hbel z0.lt).other hpz 3 _
        have hb1 : But [p, z] w (u.setCell ⟨p, 3, none⟩ (.int .u64 (nn d2))) := (hB0.on hbel).setCell (g := p) (by simp) 3 _
        generalize u.setCell ⟨p, 3, none⟩ (.int .u64 (nn d2)) = V5 at *
        clear hq h0 z0 hB0 hbel hlt
        have HR := hide hr1
        have HZ := hide hz1
        have HB := hide hb1
        have cc0 := hr1.cell 0 _ (cel_get (xs := [a3, b1, c1, d2]) (x := a3) rfl)
        have yy0 := hr1.free 0
        have cc1 := hr1.cell 1 _ (cel_get (xs := [a3, b1, c1, d2]) (x := b1) rfl)
        have yy1 := hr1.free 1
        have cc2 := hr1.cell 2 _ (cel_get (xs := [a3, b1, c1, d2]) (x := c1) rfl)
        have yy2 := hr1.free 2
        have cc3 := hr1.cell 3 _ (cel_get (xs := [a3, b1, c1, d2]) (x := d2) rfl)
        have yy3 := hr1.free 3
        clear hr1 hz1 hb1
        go_wp2_with fail
        have hr1 := unhide HR
        have hz1 := unhide HZ
        have hb1 := unhide HB
        clear HR HZ HB
        have hr1 : Row ((V5).setCell ⟨p, 2, none⟩ (.int .u64 (nn c2))) p (cel [a3, b1, c2, d2]) := by
          have := hr1.set 2 (.int .u64 (nn c2))
          rw [cel_set] at this
          exact this
        have hz1 : Row ((V5).setCell ⟨p, 2, none⟩ (.int .u64 (nn c2))) z (cel [0#64, 0#64, 0#64, 0#64]) := hz1.other hpz 2 _
        have hb1 : But [p, z] w ((V5).setCell ⟨p, 2, none⟩ (.int .u64 (nn c2))) := hb1.setCell (g := p) (by simp) 2 _
        generalize (V5).setCell ⟨p, 2, none⟩ (.int .u64 (nn c2)) = V6 at *
        have HR := hide hr1
        have HZ := hide hz1
        have HB := hide hb1
        clear hr1 hz1 hb1 cc0 cc1 cc2 cc3 yy0 yy1 yy2 yy3
        have hlt := (unhide HR).lt
        have h0 := row_drew (unhide HR)
        have z0 := row_drew (unhide HZ)
        have hB0 := (unhide HB).drew
        have hq := unhide Eb2
        clear HR HZ HB
        refine wp_region_grow_store (by kernel_rfl) [.pointer (some ⟨p, 1, none⟩), .int .u64 (nn b1), .int .u64 (nn r4), .pointer (some ⟨p, 2, none⟩), .int .u64 (nn c2), .int .u64 (nn b2), .pointer (some ⟨p, 1, none⟩), undef] 7 (fun v => v.setCell ⟨p, 1, none⟩ (.int .u64 (nn b2))) (by kernel_rfl) (by decide) rfl ?op ?store ?fin
        case op =>
          intro i o bx u ho hne hbel hS
          match i, ho with
          | 0, ho =>
            obtain rfl := Option.some.inj ho
            have d1 : bx.tmps.getD 1 undef = .pointer (some ⟨p, 0, none⟩) := hS.base 1 (by kernel_rfl)
            refine .inl ⟨rfl, ends_value (c := .pointer (some ⟨p, 1, none⟩)) ?_⟩
            simp [Act.eval, d1, go_sem]
          | 1, ho =>
            obtain rfl := Option.some.inj ho
            have d52 : bx.tmps.getD 52 undef = .pointer (some ⟨p, 1, none⟩) := hS.dep 0 52 (by kernel_rfl) (by kernel_rfl)
            have hl := (h0.on (hbel (by kernel_rfl)) hlt).cell 1 _ (cel_get (xs := [a3, b1, c2, d2]) (x := b1) rfl)
            refine .inl ⟨rfl, ends_value (c := .int .u64 (nn b1)) ?_⟩
            simp [Act.eval, d52, go_sem, hl]
          | 2, ho =>
            obtain rfl := Option.some.inj ho
            have d53 : bx.tmps.getD 53 undef = .int .u64 (nn b1) := hS.dep 1 53 (by kernel_rfl) (by kernel_rfl)
            refine .inl ⟨rfl, ends_call (c := .int .u64 (nn r4)) (by kernel_rfl) (f := 22) (args := #[.int .u64 (nn b1), .int .u64 17]) ?_ ((left_any b1 17 17 (by simp [Turn]) u).mono fun e u' ⟨he, hw⟩ => ⟨he.trans (by rw [unhide Er4]), by rw [hw]; exact Below.refl _ _⟩)⟩
            simp [Act.eval, d53, go_sem]
          | 3, ho =>
            obtain rfl := Option.some.inj ho
            have d1 : bx.tmps.getD 1 undef = .pointer (some ⟨p, 0, none⟩) := hS.base 1 (by kernel_rfl)
            refine .inl ⟨rfl, ends_value (c := .pointer (some ⟨p, 2, none⟩)) ?_⟩
            simp [Act.eval, d1, go_sem]
          | 4, ho =>
            obtain rfl := Option.some.inj ho
            have d55 : bx.tmps.getD 55 undef = .pointer (some ⟨p, 2, none⟩) := hS.dep 3 55 (by kernel_rfl) (by kernel_rfl)
            have hl := (h0.on (hbel (by kernel_rfl)) hlt).cell 2 _ (cel_get (xs := [a3, b1, c2, d2]) (x := c2) rfl)
            refine .inl ⟨rfl, ends_value (c := .int .u64 (nn c2)) ?_⟩
            simp [Act.eval, d55, go_sem, hl]
          | 5, ho =>
            obtain rfl := Option.some.inj ho
            have d54 : bx.tmps.getD 54 undef = .int .u64 (nn r4) := hS.dep 2 54 (by kernel_rfl) (by kernel_rfl)
            have d56 : bx.tmps.getD 56 undef = .int .u64 (nn c2) := hS.dep 4 56 (by kernel_rfl) (by kernel_rfl)
            refine .inl ⟨rfl, ends_value (c := .int .u64 (nn b2)) ?_⟩
            simp [Act.eval, d54, d56, go_sem, hq]
          | 6, ho =>
            obtain rfl := Option.some.inj ho
            have d1 : bx.tmps.getD 1 undef = .pointer (some ⟨p, 0, none⟩) := hS.base 1 (by kernel_rfl)
            refine .inl ⟨rfl, ends_value (c := .pointer (some ⟨p, 1, none⟩)) ?_⟩
            simp [Act.eval, d1, go_sem]
          | 7, _ => exact absurd rfl hne
          | n + 8, ho => exact absurd ho (by simp)
        case store =>
          intro o bx u ho hbel hS
          obtain rfl := Option.some.inj ho
          have d58 : bx.tmps.getD 58 undef = .pointer (some ⟨p, 1, none⟩) := hS.dep 6 58 (by kernel_rfl) (by kernel_rfl)
          have d57 : bx.tmps.getD 57 undef = .int .u64 (nn b2) := hS.dep 5 57 (by kernel_rfl) (by kernel_rfl)
          have k1 := (h0.on hbel hlt).cell 1 _ (cel_get (xs := [a3, b1, c2, d2]) (x := b1) rfl)
          have k2 := (h0.on hbel hlt).free 1
          refine ⟨rfl, ?_⟩
          simp [Act.eval, d58, d57, go_sem, k1, k2]
        case fin =>
          intro u hbel
          simp [putAll, dstAt, Act.put]
          have hr1 : Row (u.setCell ⟨p, 1, none⟩ (.int .u64 (nn b2))) p (cel [a3, b2, c2, d2]) := by
            have := (h0.on hbel hlt).set 1 (.int .u64 (nn b2))
            rw [cel_set] at this
            exact this
          have hz1 : Row (u.setCell ⟨p, 1, none⟩ (.int .u64 (nn b2))) z (cel [0#64, 0#64, 0#64, 0#64]) := (z0.on hbel z0.lt).other hpz 1 _
          have hb1 : But [p, z] w (u.setCell ⟨p, 1, none⟩ (.int .u64 (nn b2))) := (hB0.on hbel).setCell (g := p) (by simp) 1 _
          have x0 := hz1.cell 0 _ (cel_get (xs := [0#64, 0#64, 0#64, 0#64]) (x := 0#64) rfl)
          have f0 := hz1.free 0
          have x1 := hz1.cell 1 _ (cel_get (xs := [0#64, 0#64, 0#64, 0#64]) (x := 0#64) rfl)
          have f1 := hz1.free 1
          have x2 := hz1.cell 2 _ (cel_get (xs := [0#64, 0#64, 0#64, 0#64]) (x := 0#64) rfl)
          have f2 := hz1.free 2
          have x3 := hz1.cell 3 _ (cel_get (xs := [0#64, 0#64, 0#64, 0#64]) (x := 0#64) rfl)
          have f3 := hz1.free 3
          generalize u.setCell ⟨p, 1, none⟩ (.int .u64 (nn b2)) = V7 at *
          clear hq h0 z0 hB0 hbel hlt
          have HR := hide hr1
          have HZ := hide hz1
          have HB := hide hb1
          have cc0 := hr1.cell 0 _ (cel_get (xs := [a3, b2, c2, d2]) (x := a3) rfl)
          have yy0 := hr1.free 0
          have cc1 := hr1.cell 1 _ (cel_get (xs := [a3, b2, c2, d2]) (x := b2) rfl)
          have yy1 := hr1.free 1
          have cc2 := hr1.cell 2 _ (cel_get (xs := [a3, b2, c2, d2]) (x := c2) rfl)
          have yy2 := hr1.free 2
          have cc3 := hr1.cell 3 _ (cel_get (xs := [a3, b2, c2, d2]) (x := d2) rfl)
          have yy3 := hr1.free 3
          clear hr1 hz1 hb1
          go_wp2_with fail
          refine (left_any c2 32 32 (by simp [Turn]) _).mono ?_
          rintro e w2 ⟨rfl, rfl⟩
          rw [← unhide Ec3]
          go_wp2_with fail
          have hr1 := unhide HR
          have hz1 := unhide HZ
          have hb1 := unhide HB
          clear HR HZ HB
          have hr1 : Row ((w2).setCell ⟨p, 2, none⟩ (.int .u64 (nn c3))) p (cel [a3, b2, c3, d2]) := by
            have := hr1.set 2 (.int .u64 (nn c3))
            rw [cel_set] at this
            exact this
          have hz1 : Row ((w2).setCell ⟨p, 2, none⟩ (.int .u64 (nn c3))) z (cel [0#64, 0#64, 0#64, 0#64]) := hz1.other hpz 2 _
          have hb1 : But [p, z] w ((w2).setCell ⟨p, 2, none⟩ (.int .u64 (nn c3))) := hb1.setCell (g := p) (by simp) 2 _
          have HW : Hid (Row (setRow ((w2).setCell ⟨p, 2, none⟩ (.int .u64 (nn c3))) z 0 (cel [a3, b2, c3, d2])) z (cel [a3, b2, c3, d2])) := row_all _ hz1 rfl
          have HWB := hide (hb1.setRow (g := z) (by simp) 0 (cel [a3, b2, c3, d2]))
          have HS : Hid (setRow ((w2).setCell ⟨p, 2, none⟩ (.int .u64 (nn c3))) z 0 (cel [a3, b2, c3, d2]) = (((((w2).setCell ⟨p, 2, none⟩ (.int .u64 (nn c3))).setCell ⟨z, 0, none⟩ (.int .u64 (nn a3))).setCell ⟨z, 1, none⟩ (.int .u64 (nn b2))).setCell ⟨z, 2, none⟩ (.int .u64 (nn c3))).setCell ⟨z, 3, none⟩ (.int .u64 (nn d2))) := rfl
          rw [← unhide HS]
          clear HS hr1 hz1 hb1 x0 x1 x2 x3 f0 f1 f2 f3 cc0 cc1 cc2 cc3 yy0 yy1 yy2 yy3
          generalize setRow ((w2).setCell ⟨p, 2, none⟩ (.int .u64 (nn c3))) z 0 (cel [a3, b2, c3, d2]) = Z at *
          have hw := unhide HW
          have g0 := hw.cell 0 _ (cel_get (xs := [a3, b2, c3, d2]) (x := a3) rfl)
          have g1 := hw.cell 1 _ (cel_get (xs := [a3, b2, c3, d2]) (x := b2) rfl)
          have g2 := hw.cell 2 _ (cel_get (xs := [a3, b2, c3, d2]) (x := c3) rfl)
          have g3 := hw.cell 3 _ (cel_get (xs := [a3, b2, c3, d2]) (x := d2) rfl)
          refine bodyPost_ret (v := .agg #[.int .u64 (nn a3), .int .u64 (nn b2), .int .u64 (nn c3), .int .u64 (nn d2)]) ?_ rfl ⟨by rw [unhide HN], ?_⟩
          · simp [results, Try.results20, go_sem, g0, g1, g2, g3]
          · exact (unhide HWB).below (Below.refl _ _) (by intro x hx; simp at hx; omega)
end Go.Proofs.Ytbiilgdgmedpkaa
