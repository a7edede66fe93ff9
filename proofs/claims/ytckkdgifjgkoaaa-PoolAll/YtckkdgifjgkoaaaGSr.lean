/- round of the reference. -/
import Derived.Test.YtckkdgifjgkoaaaGSp
import Derived.Laws.IdiomStrings
import Derived.Laws.MakeOwn
import Derived.Laws.OwnMore
import Derived.Lib.MinMax
namespace Go.Proofs.Ytckkdgifjgkoaaa
open Go.ChangeShapes Go.WideShapes Go.ChangeAt Go.RowKit Sp

set_option maxRecDepth 100000 in
set_option maxHeartbeats 2000000 in
theorem round_any (s : St) (w : World) :
    Calls Try.prog 64 #[.agg #[.int .u64 (nn s.a), .int .u64 (nn s.b), .int .u64 (nn s.c), .int .u64 (nn s.d)]] w fun e w' =>
      e = .returned (.agg #[.int .u64 (nn (rnd s).a), .int .u64 (nn (rnd s).b), .int .u64 (nn (rnd s).c), .int .u64 (nn (rnd s).d)]) ∧ Below w.heap.size w w' := by
  obtain ⟨a1, Ea1⟩ : ∃ x, Hid (x = s.a + s.b) := ⟨_, rfl⟩
  obtain ⟨r1, Er1⟩ : ∃ x, Hid (x = rotl s.b 13) := ⟨_, rfl⟩
  obtain ⟨b1, Fb1⟩ : ∃ x, Hid (x = r1 ^^^ a1) := ⟨_, rfl⟩
  obtain ⟨a2, Ea2⟩ : ∃ x, Hid (x = rotl a1 32) := ⟨_, rfl⟩
  obtain ⟨c1, Ec1⟩ : ∃ x, Hid (x = s.c + s.d) := ⟨_, rfl⟩
  obtain ⟨r2, Er2⟩ : ∃ x, Hid (x = rotl s.d 16) := ⟨_, rfl⟩
  obtain ⟨d1, Fd1⟩ : ∃ x, Hid (x = r2 ^^^ c1) := ⟨_, rfl⟩
  obtain ⟨a3, Ea3⟩ : ∃ x, Hid (x = a2 + d1) := ⟨_, rfl⟩
  obtain ⟨r3, Er3⟩ : ∃ x, Hid (x = rotl d1 21) := ⟨_, rfl⟩
  obtain ⟨d2, Fd2⟩ : ∃ x, Hid (x = r3 ^^^ a3) := ⟨_, rfl⟩
  obtain ⟨c2, Ec2⟩ : ∃ x, Hid (x = c1 + b1) := ⟨_, rfl⟩
  obtain ⟨r4, Er4⟩ : ∃ x, Hid (x = rotl b1 17) := ⟨_, rfl⟩
  obtain ⟨b2, Fb2⟩ : ∃ x, Hid (x = r4 ^^^ c2) := ⟨_, rfl⟩
  obtain ⟨c3, Ec3⟩ : ∃ x, Hid (x = rotl c2 32) := ⟨_, rfl⟩
  have HN : Hid (rnd s = ⟨a3, b2, c3, d2⟩) := by show _ = _; rw [unhide Ec3, unhide Fb2, unhide Er4, unhide Ec2, unhide Fd2, unhide Er3, unhide Ea3, unhide Fd1, unhide Er2, unhide Ec1, unhide Ea2, unhide Fb1, unhide Er1, unhide Ea1]; rfl
  have e1 : IntKind.u64.wrap (nn s.a + nn s.b) = nn a1 := by rw [unhide Ea1]; exact wrap_add _ _
  have e2 : IntKind.u64.wrap (nn s.c + nn s.d) = nn c1 := by rw [unhide Ec1]; exact wrap_add _ _
  have e3 : IntKind.u64.wrap (nn a2 + nn d1) = nn a3 := by rw [unhide Ea3]; exact wrap_add _ _
  have e4 : IntKind.u64.wrap (nn c1 + nn b1) = nn c2 := by rw [unhide Ec2]; exact wrap_add _ _
  have Eb1 : Hid (bits .xor .u64 (nn r1) (nn a1) = nn b1) := by show _ = _; rw [unhide Fb1]; exact xor_nn _ _
  have Ed1 : Hid (bits .xor .u64 (nn r2) (nn c1) = nn d1) := by show _ = _; rw [unhide Fd1]; exact xor_nn _ _
  have Ed2 : Hid (bits .xor .u64 (nn r3) (nn a3) = nn d2) := by show _ = _; rw [unhide Fd2]; exact xor_nn _ _
  have Eb2 : Hid (bits .xor .u64 (nn r4) (nn c2) = nn b2) := by show _ = _; rw [unhide Fb2]; exact xor_nn _ _
  clear Ea1 Fb1 Ec1 Fd1 Ea3 Fd2 Ec2 Fb2
  go_enter Try.func64, Try.ntmps64
  go_wp2_with fail
  obtain ⟨V, hV⟩ : ∃ V, (w.alloc (.cells #[.int .u64 (nn a1), .int .u64 (nn s.b), .int .u64 (nn s.c), .int .u64 (nn s.d)] 124)).alloc (.cells #[.int .u64 0, .int .u64 0, .int .u64 0, .int .u64 0] 124) = V := ⟨_, rfl⟩
  obtain ⟨p, hp⟩ : ∃ b, w.heap.size = b := ⟨_, rfl⟩
  obtain ⟨z, hz⟩ : ∃ b, p + 1 = b := ⟨_, rfl⟩
  have hr1 : Row V p (cel [a1, s.b, s.c, s.d]) := by
    rw [← hV, ← hp]
    exact (row_new w (cel [a1, s.b, s.c, s.d]) 124).on' ((Below.refl _ _).alloc (Nat.le_refl _) _)
  have hz1 : Row V z (cel [0#64, 0#64, 0#64, 0#64]) := by
    rw [← hV, ← hz, ← hp]
    have := row_new (w.alloc (.cells #[.int .u64 (nn a1), .int .u64 (nn s.b), .int .u64 (nn s.c), .int .u64 (nn s.d)] 124)) (cel [0#64, 0#64, 0#64, 0#64]) 124
    have e : (w.alloc (.cells #[.int .u64 (nn a1), .int .u64 (nn s.b), .int .u64 (nn s.c), .int .u64 (nn s.d)] 124)).heap.size = w.heap.size + 1 := by simp
    rw [e] at this
    exact this
  have hb1 : But [p, z] w V := by rw [← hV]; exact But.of (((Below.refl _ _).alloc (Nat.le_refl _) _).alloc (by simp) _)
  have hpz : z ≠ p := by omega
  simp only [hV, hp, hz]
  clear hV
  have HR := hide hr1
  have HZ := hide hz1
  have HB := hide hb1
  clear hr1 hz1 hb1
  have hlt := (unhide HR).lt
  have h0 := row_drew (unhide HR)
  have z0 := row_drew (unhide HZ)
  have hB0 := (unhide HB).drew
  have hq := unhide Eb1
  clear HR HZ HB
  refine wp_region_grow_store (by kernel_rfl) [.pointer (some ⟨p, 1, none⟩), .int .u64 (nn s.b), .int .u64 (nn r1), .pointer (some ⟨p, 0, none⟩), .int .u64 (nn a1), .int .u64 (nn b1), .pointer (some ⟨p, 1, none⟩), undef] 7 (fun v => v.setCell ⟨p, 1, none⟩ (.int .u64 (nn b1))) (by kernel_rfl) (by decide) rfl ?op ?store ?fin
  case op =>
    intro i o bx u ho hne hbel hS
    match i, ho with
    | 0, ho =>
      obtain rfl := Option.some.inj ho
      have d1 : bx.tmps.getD 1 undef = .pointer (some ⟨p, 0, none⟩) := hS.base 1 (by kernel_rfl)
      refine .inl ⟨rfl, ends_value (c := .pointer (some ⟨p, 1, none⟩)) ?_⟩
      simp [Act.eval, d1, go_sem]
    | 1, ho =>
      obtain rfl := Option.some.inj ho
      have d9 : bx.tmps.getD 9 undef = .pointer (some ⟨p, 1, none⟩) := hS.dep 0 9 (by kernel_rfl) (by kernel_rfl)
      have hl := (h0.on (hbel (by kernel_rfl)) hlt).cell 1 _ (cel_get (xs := [a1, s.b, s.c, s.d]) (x := s.b) rfl)
      refine .inl ⟨rfl, ends_value (c := .int .u64 (nn s.b)) ?_⟩
      simp [Act.eval, d9, go_sem, hl]
    | 2, ho =>
      obtain rfl := Option.some.inj ho
      have d10 : bx.tmps.getD 10 undef = .int .u64 (nn s.b) := hS.dep 1 10 (by kernel_rfl) (by kernel_rfl)
      refine .inl ⟨rfl, ends_call (c := .int .u64 (nn r1)) (by kernel_rfl) (f := 75) (args := #[.int .u64 (nn s.b), .int .u64 13]) ?_ ((left_any s.b 13 13 (by simp [Turn]) u).mono fun e u' ⟨he, hw⟩ => ⟨he.trans (by rw [unhide Er1]), by rw [hw]; exact Below.refl _ _⟩)⟩
      simp [Act.eval, d10, go_sem]
    | 3, ho =>
      obtain rfl := Option.some.inj ho
      have d1 : bx.tmps.getD 1 undef = .pointer (some ⟨p, 0, none⟩) := hS.base 1 (by kernel_rfl)
      refine .inl ⟨rfl, ends_value (c := .pointer (some ⟨p, 0, none⟩)) ?_⟩
      simp [Act.eval, d1, go_sem]
    | 4, ho =>
      obtain rfl := Option.some.inj ho
      have d12 : bx.tmps.getD 12 undef = .pointer (some ⟨p, 0, none⟩) := hS.dep 3 12 (by kernel_rfl) (by kernel_rfl)
      have hl := (h0.on (hbel (by kernel_rfl)) hlt).cell 0 _ (cel_get (xs := [a1, s.b, s.c, s.d]) (x := a1) rfl)
      refine .inl ⟨rfl, ends_value (c := .int .u64 (nn a1)) ?_⟩
      simp [Act.eval, d12, go_sem, hl]
    | 5, ho =>
      obtain rfl := Option.some.inj ho
      have d11 : bx.tmps.getD 11 undef = .int .u64 (nn r1) := hS.dep 2 11 (by kernel_rfl) (by kernel_rfl)
      have d13 : bx.tmps.getD 13 undef = .int .u64 (nn a1) := hS.dep 4 13 (by kernel_rfl) (by kernel_rfl)
      refine .inl ⟨rfl, ends_value (c := .int .u64 (nn b1)) ?_⟩
      simp [Act.eval, d11, d13, go_sem, hq]
    | 6, ho =>
      obtain rfl := Option.some.inj ho
      have d1 : bx.tmps.getD 1 undef = .pointer (some ⟨p, 0, none⟩) := hS.base 1 (by kernel_rfl)
      refine .inl ⟨rfl, ends_value (c := .pointer (some ⟨p, 1, none⟩)) ?_⟩
      simp [Act.eval, d1, go_sem]
    | 7, _ => exact absurd rfl hne
    | n + 8, ho => exact absurd ho (by simp)
  case store =>
    intro o bx u ho hbel hS
    obtain rfl := Option.some.inj ho
    have d15 : bx.tmps.getD 15 undef = .pointer (some ⟨p, 1, none⟩) := hS.dep 6 15 (by kernel_rfl) (by kernel_rfl)
    have d14 : bx.tmps.getD 14 undef = .int .u64 (nn b1) := hS.dep 5 14 (by kernel_rfl) (by kernel_rfl)
    have k1 := (h0.on hbel hlt).cell 1 _ (cel_get (xs := [a1, s.b, s.c, s.d]) (x := s.b) rfl)
    have k2 := (h0.on hbel hlt).free 1
    refine ⟨rfl, ?_⟩
    simp [Act.eval, d15, d14, go_sem, k1, k2]
  case fin =>
    intro u hbel
    simp [putAll, dstAt, Act.put]
    have hr1 : Row (u.setCell ⟨p, 1, none⟩ (.int .u64 (nn b1))) p (cel [a1, b1, s.c, s.d]) := by
      have := (h0.on hbel hlt).set 1 (.int .u64 (nn b1))
      rw [cel_set] at this
      exact this
    have hz1 : Row (u.setCell ⟨p, 1, none⟩ (.int .u64 (nn b1))) z (cel [0#64, 0#64, 0#64, 0#64]) := (z0.on hbel z0.lt).other hpz 1 _
    have hb1 : But [p, z] w (u.setCell ⟨p, 1, none⟩ (.int .u64 (nn b1))) := (hB0.on hbel).setCell (g := p) (by simp) 1 _
    generalize u.setCell ⟨p, 1, none⟩ (.int .u64 (nn b1)) = V1 at *
    clear hq h0 z0 hB0 hbel hlt
    have HR := hide hr1
    have HZ := hide hz1
    have HB := hide hb1
    have cc0 := hr1.cell 0 _ (cel_get (xs := [a1, b1, s.c, s.d]) (x := a1) rfl)
    have yy0 := hr1.free 0
    have cc1 := hr1.cell 1 _ (cel_get (xs := [a1, b1, s.c, s.d]) (x := b1) rfl)
    have yy1 := hr1.free 1
    have cc2 := hr1.cell 2 _ (cel_get (xs := [a1, b1, s.c, s.d]) (x := s.c) rfl)
    have yy2 := hr1.free 2
    have cc3 := hr1.cell 3 _ (cel_get (xs := [a1, b1, s.c, s.d]) (x := s.d) rfl)
    have yy3 := hr1.free 3
    clear hr1 hz1 hb1
    go_wp2_with fail
    refine (left_any a1 32 32 (by simp [Turn]) _).mono ?_
    rintro e w2 ⟨rfl, rfl⟩
    rw [← unhide Ea2]
    go_wp2_with fail
    have hr1 := unhide HR
    have hz1 := unhide HZ
    have hb1 := unhide HB
    clear HR HZ HB
    have hr1 : Row ((w2).setCell ⟨p, 0, none⟩ (.int .u64 (nn a2))) p (cel [a2, b1, s.c, s.d]) := by
      have := hr1.set 0 (.int .u64 (nn a2))
      rw [cel_set] at this
      exact this
    have hz1 : Row ((w2).setCell ⟨p, 0, none⟩ (.int .u64 (nn a2))) z (cel [0#64, 0#64, 0#64, 0#64]) := hz1.other hpz 0 _
    have hb1 : But [p, z] w ((w2).setCell ⟨p, 0, none⟩ (.int .u64 (nn a2))) := hb1.setCell (g := p) (by simp) 0 _
    have hr1 : Row (((w2).setCell ⟨p, 0, none⟩ (.int .u64 (nn a2))).setCell ⟨p, 2, none⟩ (.int .u64 (nn c1))) p (cel [a2, b1, c1, s.d]) := by
      have := hr1.set 2 (.int .u64 (nn c1))
      rw [cel_set] at this
      exact this
    have hz1 : Row (((w2).setCell ⟨p, 0, none⟩ (.int .u64 (nn a2))).setCell ⟨p, 2, none⟩ (.int .u64 (nn c1))) z (cel [0#64, 0#64, 0#64, 0#64]) := hz1.other hpz 2 _
    have hb1 : But [p, z] w (((w2).setCell ⟨p, 0, none⟩ (.int .u64 (nn a2))).setCell ⟨p, 2, none⟩ (.int .u64 (nn c1))) := hb1.setCell (g := p) (by simp) 2 _
    generalize ((w2).setCell ⟨p, 0, none⟩ (.int .u64 (nn a2))).setCell ⟨p, 2, none⟩ (.int .u64 (nn c1)) = V2 at *
    have HR := hide hr1
    have HZ := hide hz1
    have HB := hide hb1
    clear hr1 hz1 hb1 cc0 cc1 cc2 cc3 yy0 yy1 yy2 yy3
    have hlt := (unhide HR).lt
    have h0 := row_drew (unhide HR)
    have z0 := row_drew (unhide HZ)
    have hB0 := (unhide HB).drew
    have hq := unhide Ed1
    clear HR HZ HB
    refine wp_region_grow_store (by kernel_rfl) [.pointer (some ⟨p, 3, none⟩), .int .u64 (nn s.d), .int .u64 (nn r2), .pointer (some ⟨p, 2, none⟩), .int .u64 (nn c1), .int .u64 (nn d1), .pointer (some ⟨p, 3, none⟩), undef] 7 (fun v => v.setCell ⟨p, 3, none⟩ (.int .u64 (nn d1))) (by kernel_rfl) (by decide) rfl ?op ?store ?fin
    case op =>
      intro i o bx u ho hne hbel hS
      match i, ho with
      | 0, ho =>
        obtain rfl := Option.some.inj ho
        have d1 : bx.tmps.getD 1 undef = .pointer (some ⟨p, 0, none⟩) := hS.base 1 (by kernel_rfl)
        refine .inl ⟨rfl, ends_value (c := .pointer (some ⟨p, 3, none⟩)) ?_⟩
        simp [Act.eval, d1, go_sem]
      | 1, ho =>
        obtain rfl := Option.some.inj ho
        have d26 : bx.tmps.getD 26 undef = .pointer (some ⟨p, 3, none⟩) := hS.dep 0 26 (by kernel_rfl) (by kernel_rfl)
        have hl := (h0.on (hbel (by kernel_rfl)) hlt).cell 3 _ (cel_get (xs := [a2, b1, c1, s.d]) (x := s.d) rfl)
        refine .inl ⟨rfl, ends_value (c := .int .u64 (nn s.d)) ?_⟩
        simp [Act.eval, d26, go_sem, hl]
      | 2, ho =>
        obtain rfl := Option.some.inj ho
        have d27 : bx.tmps.getD 27 undef = .int .u64 (nn s.d) := hS.dep 1 27 (by kernel_rfl) (by kernel_rfl)
        refine .inl ⟨rfl, ends_call (c := .int .u64 (nn r2)) (by kernel_rfl) (f := 75) (args := #[.int .u64 (nn s.d), .int .u64 16]) ?_ ((left_any s.d 16 16 (by simp [Turn]) u).mono fun e u' ⟨he, hw⟩ => ⟨he.trans (by rw [unhide Er2]), by rw [hw]; exact Below.refl _ _⟩)⟩
        simp [Act.eval, d27, go_sem]
      | 3, ho =>
        obtain rfl := Option.some.inj ho
        have d1 : bx.tmps.getD 1 undef = .pointer (some ⟨p, 0, none⟩) := hS.base 1 (by kernel_rfl)
        refine .inl ⟨rfl, ends_value (c := .pointer (some ⟨p, 2, none⟩)) ?_⟩
        simp [Act.eval, d1, go_sem]
      | 4, ho =>
        obtain rfl := Option.some.inj ho
        have d29 : bx.tmps.getD 29 undef = .pointer (some ⟨p, 2, none⟩) := hS.dep 3 29 (by kernel_rfl) (by kernel_rfl)
        have hl := (h0.on (hbel (by kernel_rfl)) hlt).cell 2 _ (cel_get (xs := [a2, b1, c1, s.d]) (x := c1) rfl)
        refine .inl ⟨rfl, ends_value (c := .int .u64 (nn c1)) ?_⟩
        simp [Act.eval, d29, go_sem, hl]
      | 5, ho =>
        obtain rfl := Option.some.inj ho
        have d28 : bx.tmps.getD 28 undef = .int .u64 (nn r2) := hS.dep 2 28 (by kernel_rfl) (by kernel_rfl)
        have d30 : bx.tmps.getD 30 undef = .int .u64 (nn c1) := hS.dep 4 30 (by kernel_rfl) (by kernel_rfl)
        refine .inl ⟨rfl, ends_value (c := .int .u64 (nn d1)) ?_⟩
        simp [Act.eval, d28, d30, go_sem, hq]
      | 6, ho =>
        obtain rfl := Option.some.inj ho
        have d1 : bx.tmps.getD 1 undef = .pointer (some ⟨p, 0, none⟩) := hS.base 1 (by kernel_rfl)
        refine .inl ⟨rfl, ends_value (c := .pointer (some ⟨p, 3, none⟩)) ?_⟩
        simp [Act.eval, d1, go_sem]
      | 7, _ => exact absurd rfl hne
      | n + 8, ho => exact absurd ho (by simp)
    case store =>
      intro o bx u ho hbel hS
      obtain rfl := Option.some.inj ho
      have d32 : bx.tmps.getD 32 undef = .pointer (some ⟨p, 3, none⟩) := hS.dep 6 32 (by kernel_rfl) (by kernel_rfl)
      have d31 : bx.tmps.getD 31 undef = .int .u64 (nn d1) := hS.dep 5 31 (by kernel_rfl) (by kernel_rfl)
      have k1 := (h0.on hbel hlt).cell 3 _ (cel_get (xs := [a2, b1, c1, s.d]) (x := s.d) rfl)
      have k2 := (h0.on hbel hlt).free 3
      refine ⟨rfl, ?_⟩
      simp [Act.eval, d32, d31, go_sem, k1, k2]
    case fin =>
      intro u hbel
      simp [putAll, dstAt, Act.put]
      have hr1 : Row (u.setCell ⟨p, 3, none⟩ (.int .u64 (nn d1))) p (cel [a2, b1, c1, d1]) := by
        have := (h0.on hbel hlt).set 3 (.int .u64 (nn d1))
        rw [cel_set] at this
        exact this
      have hz1 : Row (u.setCell ⟨p, 3, none⟩ (.int .u64 (nn d1))) z (cel [0#64, 0#64, 0#64, 0#64]) := (z0.on hbel z0.lt).other hpz 3 _
      have hb1 : But [p, z] w (u.setCell ⟨p, 3, none⟩ (.int .u64 (nn d1))) := (hB0.on hbel).setCell (g := p) (by simp) 3 _
      generalize u.setCell ⟨p, 3, none⟩ (.int .u64 (nn d1)) = V3 at *
      clear hq h0 z0 hB0 hbel hlt
      have HR := hide hr1
      have HZ := hide hz1
      have HB := hide hb1
      have cc0 := hr1.cell 0 _ (cel_get (xs := [a2, b1, c1, d1]) (x := a2) rfl)
      have yy0 := hr1.free 0
      have cc1 := hr1.cell 1 _ (cel_get (xs := [a2, b1, c1, d1]) (x := b1) rfl)
      have yy1 := hr1.free 1
      have cc2 := hr1.cell 2 _ (cel_get (xs := [a2, b1, c1, d1]) (x := c1) rfl)
      have yy2 := hr1.free 2
      have cc3 := hr1.cell 3 _ (cel_get (xs := [a2, b1, c1, d1]) (x := d1) rfl)
      have yy3 := hr1.free 3
      clear hr1 hz1 hb1
      go_wp2_with fail
      have hr1 := unhide HR
      have hz1 := unhide HZ
      have hb1 := unhide HB
      clear HR HZ HB
      have hr1 : Row ((V3).setCell ⟨p, 0, none⟩ (.int .u64 (nn a3))) p (cel [a3, b1, c1, d1]) := by
        have := hr1.set 0 (.int .u64 (nn a3))
        rw [cel_set] at this
        exact this
      have hz1 : Row ((V3).setCell ⟨p, 0, none⟩ (.int .u64 (nn a3))) z (cel [0#64, 0#64, 0#64, 0#64]) := hz1.other hpz 0 _
      have hb1 : But [p, z] w ((V3).setCell ⟨p, 0, none⟩ (.int .u64 (nn a3))) := hb1.setCell (g := p) (by simp) 0 _
      generalize (V3).setCell ⟨p, 0, none⟩ (.int .u64 (nn a3)) = V4 at *
      have HR := hide hr1
      have HZ := hide hz1
      have HB := hide hb1
      clear hr1 hz1 hb1 cc0 cc1 cc2 cc3 yy0 yy1 yy2 yy3
      have hlt := (unhide HR).lt
      have h0 := row_drew (unhide HR)
      have z0 := row_drew (unhide HZ)
      have hB0 := (unhide HB).drew
      have hq := unhide Ed2
      clear HR HZ HB
      refine wp_region_grow_store (by kernel_rfl) [.pointer (some ⟨p, 3, none⟩), .int .u64 (nn d1), .int .u64 (nn r3), .pointer (some ⟨p, 0, none⟩), .int .u64 (nn a3), .int .u64 (nn d2), .pointer (some ⟨p, 3, none⟩), undef] 7 (fun v => v.setCell ⟨p, 3, none⟩ (.int .u64 (nn d2))) (by kernel_rfl) (by decide) rfl ?op ?store ?fin
      case op =>
        intro i o bx u ho hne hbel hS
        match i, ho with
        | 0, ho =>
          obtain rfl := Option.some.inj ho
          have d1 : bx.tmps.getD 1 undef = .pointer (some ⟨p, 0, none⟩) := hS.base 1 (by kernel_rfl)
          refine .inl ⟨rfl, ends_value (c := .pointer (some ⟨p, 3, none⟩)) ?_⟩
          simp [Act.eval, d1, go_sem]
        | 1, ho =>
          obtain rfl := Option.some.inj ho
          have d39 : bx.tmps.getD 39 undef = .pointer (some ⟨p, 3, none⟩) := hS.dep 0 39 (by kernel_rfl) (by kernel_rfl)
          have hl := (h0.on (hbel (by kernel_rfl)) hlt).cell 3 _ (cel_get (xs := [a3, b1, c1, d1]) (x := d1) rfl)
          refine .inl ⟨rfl, ends_value (c := .int .u64 (nn d1)) ?_⟩
          simp [Act.eval, d39, go_sem, hl]
        | 2, ho =>
          obtain rfl := Option.some.inj ho
          have d40 : bx.tmps.getD 40 undef = .int .u64 (nn d1) := hS.dep 1 40 (by kernel_rfl) (by kernel_rfl)
          refine .inl ⟨rfl, ends_call (c := .int .u64 (nn r3)) (by kernel_rfl) (f := 75) (args := #[.int .u64 (nn d1), .int .u64 21]) ?_ ((left_any d1 21 21 (by simp [Turn]) u).mono fun e u' ⟨he, hw⟩ => ⟨he.trans (by rw [unhide Er3]), by rw [hw]; exact Below.refl _ _⟩)⟩
          simp [Act.eval, d40, go_sem]
        | 3, ho =>
          obtain rfl := Option.some.inj ho
          have d1 : bx.tmps.getD 1 undef = .pointer (some ⟨p, 0, none⟩) := hS.base 1 (by kernel_rfl)
          refine .inl ⟨rfl, ends_value (c := .pointer (some ⟨p, 0, none⟩)) ?_⟩
          simp [Act.eval, d1, go_sem]
        | 4, ho =>
          obtain rfl := Option.some.inj ho
          have d42 : bx.tmps.getD 42 undef = .pointer (some ⟨p, 0, none⟩) := hS.dep 3 42 (by kernel_rfl) (by kernel_rfl)
          have hl := (h0.on (hbel (by kernel_rfl)) hlt).cell 0 _ (cel_get (xs := [a3, b1, c1, d1]) (x := a3) rfl)
          refine .inl ⟨rfl, ends_value (c := .int .u64 (nn a3)) ?_⟩
          simp [Act.eval, d42, go_sem, hl]
        | 5, ho =>
          obtain rfl := Option.some.inj ho
          have d41 : bx.tmps.getD 41 undef = .int .u64 (nn r3) := hS.dep 2 41 (by kernel_rfl) (by kernel_rfl)
          have d43 : bx.tmps.getD 43 undef = .int .u64 (nn a3) := hS.dep 4 43 (by kernel_rfl) (by kernel_rfl)
          refine .inl ⟨rfl, ends_value (c := .int .u64 (nn d2)) ?_⟩
          simp [Act.eval, d41, d43, go_sem, hq]
        | 6, ho =>
          obtain rfl := Option.some.inj ho
          have d1 : bx.tmps.getD 1 undef = .pointer (some ⟨p, 0, none⟩) := hS.base 1 (by kernel_rfl)
          refine .inl ⟨rfl, ends_value (c := .pointer (some ⟨p, 3, none⟩)) ?_⟩
          simp [Act.eval, d1, go_sem]
        | 7, _ => exact absurd rfl hne
        | n + 8, ho => exact absurd ho (by simp)
      case store =>
        intro o bx u ho hbel hS
        obtain rfl := Option.some.inj ho
        have d45 : bx.tmps.getD 45 undef = .pointer (some ⟨p, 3, none⟩) := hS.dep 6 45 (by kernel_rfl) (by kernel_rfl)
        have d44 : bx.tmps.getD 44 undef = .int .u64 (nn d2) := hS.dep 5 44 (by kernel_rfl) (by kernel_rfl)
        have k1 := (h0.on hbel hlt).cell 3 _ (cel_get (xs := [a3, b1, c1, d1]) (x := d1) rfl)
        have k2 := (h0.on hbel hlt).free 3
        refine ⟨rfl, ?_⟩
        simp [Act.eval, d45, d44, go_sem, k1, k2]
      case fin =>
        intro u hbel
        simp [putAll, dstAt, Act.put]
        have hr1 : Row (u.setCell ⟨p, 3, none⟩ (.int .u64 (nn d2))) p (cel [a3, b1, c1, d2]) := by
          have := (h0.on hbel hlt).set 3 (.int .u64 (nn d2))
          rw [cel_set] at this
          exact this
        have hz1 : Row (u.setCell ⟨p, 3, none⟩ (.int .u64 (nn d2))) z (cel [0#64, 0#64, 0#64, 0#64]) := (z0.on hbel z0.lt).other hpz 3 _
        have hb1 : But [p, z] w (u.setCell ⟨p, 3, none⟩ (.int .u64 (nn d2))) := (hB0.on hbel).setCell (g := p) (by simp) 3 _
        generalize u.setCell ⟨p, 3, none⟩ (.int .u64 (nn d2)) = V5 at *
        clear hq h0 z0 hB0 hbel hlt
        have HR := hide hr1
        have HZ := hide hz1
        have HB := hide hb1
        have cc0 := hr1.cell 0 _ (cel_get (xs := [a3, b1, c1, d2]) (x := a3) rfl)
        have yy0 := hr1.free 0
        have cc1 := hr1.cell 1 _ (cel_get (xs := [a3, b1, c1, d2]) (x := b1) rfl)
        have yy1 := hr1.free 1
        have cc2 := hr1.cell 2 _ (cel_get (xs := [a3, b1, c1, d2]) (x := c1) rfl)
        have yy2 := hr1.free 2
        have cc3 := hr1.cell 3 _ (cel_get (xs := [a3, b1, c1, d2]) (x := d2) rfl)
        have yy3 := hr1.free 3
        clear hr1 hz1 hb1
        go_wp2_with fail
        have hr1 := unhide HR
        have hz1 := unhide HZ
        have hb1 := unhide HB
        clear HR HZ HB
        have hr1 : Row ((V5).setCell ⟨p, 2, none⟩ (.int .u64 (nn c2))) p (cel [a3, b1, c2, d2]) := by
          have := hr1.set 2 (.int .u64 (nn c2))
          rw [cel_set] at this
          exact this
        have hz1 : Row ((V5).setCell ⟨p, 2, none⟩ (.int .u64 (nn c2))) z (cel [0#64, 0#64, 0#64, 0#64]) := hz1.other hpz 2 _
        have hb1 : But [p, z] w ((V5).setCell ⟨p, 2, none⟩ (.int .u64 (nn c2))) := hb1.setCell (g := p) (by simp) 2 _
        generalize (V5).setCell ⟨p, 2, none⟩ (.int .u64 (nn c2)) = V6 at *
        have HR := hide hr1
        have HZ := hide hz1
        have HB := hide hb1
        clear hr1 hz1 hb1 cc0 cc1 cc2 cc3 yy0 yy1 yy2 yy3
        have hlt := (unhide HR).lt
        have h0 := row_drew (unhide HR)
        have z0 := row_drew (unhide HZ)
        have hB0 := (unhide HB).drew
        have hq := unhide Eb2
        clear HR HZ HB
        refine wp_region_grow_store (by kernel_rfl) [.pointer (some ⟨p, 1, none⟩), .int .u64 (nn b1), .int .u64 (nn r4), .pointer (some ⟨p, 2, none⟩), .int .u64 (nn c2), .int .u64 (nn b2), .pointer (some ⟨p, 1, none⟩), undef] 7 (fun v => v.setCell ⟨p, 1, none⟩ (.int .u64 (nn b2))) (by kernel_rfl) (by decide) rfl ?op ?store ?fin
        case op =>
          intro i o bx u ho hne hbel hS
          match i, ho with
          | 0, ho =>
            obtain rfl := Option.some.inj ho
            have d1 : bx.tmps.getD 1 undef = .pointer (some ⟨p, 0, none⟩) := hS.base 1 (by kernel_rfl)
            refine .inl ⟨rfl, ends_value (c := .pointer (some ⟨p, 1, none⟩)) ?_⟩
            simp [Act.eval, d1, go_sem]
          | 1, ho =>
            obtain rfl := Option.some.inj ho
            have d52 : bx.tmps.getD 52 undef = .pointer (some ⟨p, 1, none⟩) := hS.dep 0 52 (by kernel_rfl) (by kernel_rfl)
            have hl := (h0.on (hbel (by kernel_rfl)) hlt).cell 1 _ (cel_get (xs := [a3, b1, c2, d2]) (x := b1) rfl)
            refine .inl ⟨rfl, ends_value (c := .int .u64 (nn b1)) ?_⟩
            simp [Act.eval, d52, go_sem, hl]
          | 2, ho =>
            obtain rfl := Option.some.inj ho
            have d53 : bx.tmps.getD 53 undef = .int .u64 (nn b1) := hS.dep 1 53 (by kernel_rfl) (by kernel_rfl)
            refine .inl ⟨rfl, ends_call (c := .int .u64 (nn r4)) (by kernel_rfl) (f := 75) (args := #[.int .u64 (nn b1), .int .u64 17]) ?_ ((left_any b1 17 17 (by simp [Turn]) u).mono fun e u' ⟨he, hw⟩ => ⟨he.trans (by rw [unhide Er4]), by rw [hw]; exact Below.refl _ _⟩)⟩
            simp [Act.eval, d53, go_sem]
          | 3, ho =>
            obtain rfl := Option.some.inj ho
            have d1 : bx.tmps.getD 1 undef = .pointer (some ⟨p, 0, none⟩) := hS.base 1 (by kernel_rfl)
            refine .inl ⟨rfl, ends_value (c := .pointer (some ⟨p, 2, none⟩)) ?_⟩
            simp [Act.eval, d1, go_sem]
          | 4, ho =>
            obtain rfl := Option.some.inj ho
            have d55 : bx.tmps.getD 55 undef = .pointer (some ⟨p, 2, none⟩) := hS.dep 3 55 (by kernel_rfl) (by kernel_rfl)
            have hl := (h0.on (hbel (by kernel_rfl)) hlt).cell 2 _ (cel_get (xs := [a3, b1, c2, d2]) (x := c2) rfl)
            refine .inl ⟨rfl, ends_value (c := .int .u64 (nn c2)) ?_⟩
            simp [Act.eval, d55, go_sem, hl]
          | 5, ho =>
            obtain rfl := Option.some.inj ho
            have d54 : bx.tmps.getD 54 undef = .int .u64 (nn r4) := hS.dep 2 54 (by kernel_rfl) (by kernel_rfl)
            have d56 : bx.tmps.getD 56 undef = .int .u64 (nn c2) := hS.dep 4 56 (by kernel_rfl) (by kernel_rfl)
            refine .inl ⟨rfl, ends_value (c := .int .u64 (nn b2)) ?_⟩
            simp [Act.eval, d54, d56, go_sem, hq]
          | 6, ho =>
            obtain rfl := Option.some.inj ho
            have d1 : bx.tmps.getD 1 undef = .pointer (some ⟨p, 0, none⟩) := hS.base 1 (by kernel_rfl)
            refine .inl ⟨rfl, ends_value (c := .pointer (some ⟨p, 1, none⟩)) ?_⟩
            simp [Act.eval, d1, go_sem]
          | 7, _ => exact absurd rfl hne
          | n + 8, ho => exact absurd ho (by simp)
        case store =>
          intro o bx u ho hbel hS
          obtain rfl := Option.some.inj ho
          have d58 : bx.tmps.getD 58 undef = .pointer (some ⟨p, 1, none⟩) := hS.dep 6 58 (by kernel_rfl) (by kernel_rfl)
          have d57 : bx.tmps.getD 57 undef = .int .u64 (nn b2) := hS.dep 5 57 (by kernel_rfl) (by kernel_rfl)
          have k1 := (h0.on hbel hlt).cell 1 _ (cel_get (xs := [a3, b1, c2, d2]) (x := b1) rfl)
          have k2 := (h0.on hbel hlt).free 1
          refine ⟨rfl, ?_⟩
          simp [Act.eval, d58, d57, go_sem, k1, k2]
        case fin =>
          intro u hbel
          simp [putAll, dstAt, Act.put]
          have hr1 : Row (u.setCell ⟨p, 1, none⟩ (.int .u64 (nn b2))) p (cel [a3, b2, c2, d2]) := by
            have := (h0.on hbel hlt).set 1 (.int .u64 (nn b2))
            rw [cel_set] at this
            exact this
          have hz1 : Row (u.setCell ⟨p, 1, none⟩ (.int .u64 (nn b2))) z (cel [0#64, 0#64, 0#64, 0#64]) := (z0.on hbel z0.lt).other hpz 1 _
          have hb1 : But [p, z] w (u.setCell ⟨p, 1, none⟩ (.int .u64 (nn b2))) := (hB0.on hbel).setCell (g := p) (by simp) 1 _
          have x0 := hz1.cell 0 _ (cel_get (xs := [0#64, 0#64, 0#64, 0#64]) (x := 0#64) rfl)
          have f0 := hz1.free 0
          have x1 := hz1.cell 1 _ (cel_get (xs := [0#64, 0#64, 0#64, 0#64]) (x := 0#64) rfl)
          have f1 := hz1.free 1
          have x2 := hz1.cell 2 _ (cel_get (xs := [0#64, 0#64, 0#64, 0#64]) (x := 0#64) rfl)
          have f2 := hz1.free 2
          have x3 := hz1.cell 3 _ (cel_get (xs := [0#64, 0#64, 0#64, 0#64]) (x := 0#64) rfl)
          have f3 := hz1.free 3
          generalize u.setCell ⟨p, 1, none⟩ (.int .u64 (nn b2)) = V7 at *
          clear hq h0 z0 hB0 hbel hlt
          have HR := hide hr1
          have HZ := hide hz1
          have HB := hide hb1
          have cc0 := hr1.cell 0 _ (cel_get (xs := [a3, b2, c2, d2]) (x := a3) rfl)
          have yy0 := hr1.free 0
          have cc1 := hr1.cell 1 _ (cel_get (xs := [a3, b2, c2, d2]) (x := b2) rfl)
          have yy1 := hr1.free 1
          have cc2 := hr1.cell 2 _ (cel_get (xs := [a3, b2, c2, d2]) (x := c2) rfl)
          have yy2 := hr1.free 2
          have cc3 := hr1.cell 3 _ (cel_get (xs := [a3, b2, c2, d2]) (x := d2) rfl)
          have yy3 := hr1.free 3
          clear hr1 hz1 hb1
          go_wp2_with fail
          refine (left_any c2 32 32 (by simp [Turn]) _).mono ?_
          rintro e w2 ⟨rfl, rfl⟩
          rw [← unhide Ec3]
          go_wp2_with fail
          have hr1 := unhide HR
          have hz1 := unhide HZ
          have hb1 := unhide HB
          clear HR HZ HB
          have hr1 : Row ((w2).setCell ⟨p, 2, none⟩ (.int .u64 (nn c3))) p (cel [a3, b2, c3, d2]) := by
            have := hr1.set 2 (.int .u64 (nn c3))
            rw [cel_set] at this
            exact this
          have hz1 : Row ((w2).setCell ⟨p, 2, none⟩ (.int .u64 (nn c3))) z (cel [0#64, 0#64, 0#64, 0#64]) := hz1.other hpz 2 _
          have hb1 : But [p, z] w ((w2).setCell ⟨p, 2, none⟩ (.int .u64 (nn c3))) := hb1.setCell (g := p) (by simp) 2 _
          have HW : Hid (Row (setRow ((w2).setCell ⟨p, 2, none⟩ (.int .u64 (nn c3))) z 0 (cel [a3, b2, c3, d2])) z (cel [a3, b2, c3, d2])) := row_all _ hz1 rfl
          have HWB := hide (hb1.setRow (g := z) (by simp) 0 (cel [a3, b2, c3, d2]))
          have HS : Hid (setRow ((w2).setCell ⟨p, 2, none⟩ (.int .u64 (nn c3))) z 0 (cel [a3, b2, c3, d2]) = (((((w2).setCell ⟨p, 2, none⟩ (.int .u64 (nn c3))).setCell ⟨z, 0, none⟩ (.int .u64 (nn a3))).setCell ⟨z, 1, none⟩ (.int .u64 (nn b2))).setCell ⟨z, 2, none⟩ (.int .u64 (nn c3))).setCell ⟨z, 3, none⟩ (.int .u64 (nn d2))) := rfl
          rw [← unhide HS]
          clear HS hr1 hz1 hb1 x0 x1 x2 x3 f0 f1 f2 f3 cc0 cc1 cc2 cc3 yy0 yy1 yy2 yy3
          generalize setRow ((w2).setCell ⟨p, 2, none⟩ (.int .u64 (nn c3))) z 0 (cel [a3, b2, c3, d2]) = Z at *
          have hw := unhide HW
          have g0 := hw.cell 0 _ (cel_get (xs := [a3, b2, c3, d2]) (x := a3) rfl)
          have g1 := hw.cell 1 _ (cel_get (xs := [a3, b2, c3, d2]) (x := b2) rfl)
          have g2 := hw.cell 2 _ (cel_get (xs := [a3, b2, c3, d2]) (x := c3) rfl)
          have g3 := hw.cell 3 _ (cel_get (xs := [a3, b2, c3, d2]) (x := d2) rfl)
          refine bodyPost_ret (v := .agg #[.int .u64 (nn a3), .int .u64 (nn b2), .int .u64 (nn c3), .int .u64 (nn d2)]) ?_ rfl ⟨by rw [unhide HN], ?_⟩
          · simp [results, Try.results64, go_sem, g0, g1, g2, g3]
          · exact (unhide HWB).below (Below.refl _ _) (by intro x hx; simp at hx; omega)
end Go.Proofs.Ytckkdgifjgkoaaa

/- Hash of the reference. -/
namespace Go.Proofs.Ytckkdgifjgkoaaa
open Go.ChangeShapes Go.WideShapes Go.ChangeAt Go.RowKit Sp

theorem conv_one (W : World) (a : Int) :
    (convert 60 9 (.slice (some ⟨W.heap.size, 0, none⟩) 1 1)).run Try.prog (W.alloc (.cells #[.int .u8 a] 5))
      = .ok (.string (strOfNums [a])) (W.alloc (.cells #[.int .u8 a] 5)) := by
  refine run_convert_bytes_arg _ 60 5 Try.underlying60 Try.underlying5 _ 0 1 1 [a] (by simp) ?_ 9 Try.underlying9
  intro i hi
  obtain rfl : i = 0 := by omega
  simp [go_sem, List.getD]
def zOf (n : Nat) : Value → Nat
  | .string b => n + 8 - b.size
  | _ => 0
theorem zOf_str (n : Nat) (b : ByteArray) : zOf n (.string b) = n + 8 - b.size := rfl
set_option maxRecDepth 100000 in
set_option maxHeartbeats 400000 in
theorem rhash_no (key s : ByteArray) (w : World) (hk : key.size ≠ 16) :
    Calls Try.prog 48 #[.string key, .string s] w fun e w' => e = .returned (.tuple #[.int .u64 0, .bool false]) ∧ w' = w := by
  have hd : ((key.size : Int) != 16) = true := by simp; omega
  go_enter Try.func48, Try.ntmps48
  go_wp2_with fail
  go_ret2
  exact ⟨rfl, rfl⟩
set_option maxRecDepth 100000 in
set_option maxHeartbeats 2000000 in
theorem rhash_yes (key s : ByteArray) (w : World) (hk : key.size = 16) (hs : s.size ≤ 1000000) :
    Calls Try.prog 48 #[.string key, .string s] w fun e w' => e = .returned (.tuple #[.int .u64 (nn (hash key s)), .bool true]) ∧ Below w.heap.size w w' := by
  have hd : ((key.size : Int) != 16) = false := by simp; omega
  obtain ⟨k, Ek⟩ : ∃ k, Hid (wd key 0 0 = k) := ⟨_, rfl⟩
  obtain ⟨l, El⟩ : ∃ l, Hid (wd key 8 0 = l) := ⟨_, rfl⟩
  have HK : Hid (∀ W, Calls Try.prog 63 #[.string key, .int .i64 0] W fun e w' => e = .returned (.int .u64 (nn k)) ∧ w' = W) := fun W => by
    have h := word_any key 0 W (by rw [hk]; decide) (by omega)
    rw [unhide Ek] at h; exact h
  have HL : Hid (∀ W, Calls Try.prog 63 #[.string key, .int .i64 8] W fun e w' => e = .returned (.int .u64 (nn l)) ∧ w' = W) := fun W => by
    have h := word_any key 8 W (by rw [hk]; decide) (by omega)
    rw [unhide El] at h; exact h
  obtain ⟨sa, ea, fa⟩ : ∃ x, bits .xor .u64 (nn k) 8317987319222330741 = nn x ∧ Hid (x = 0x736f6d6570736575#64 ^^^ k) := ⟨_, xor_nn k 0x736f6d6570736575#64, BitVec.xor_comm _ _⟩
  obtain ⟨sb, eb, fb⟩ : ∃ x, bits .xor .u64 (nn l) 7237128888997146477 = nn x ∧ Hid (x = 0x646f72616e646f6d#64 ^^^ l) := ⟨_, xor_nn l 0x646f72616e646f6d#64, BitVec.xor_comm _ _⟩
  obtain ⟨sc, ec, fc⟩ : ∃ x, bits .xor .u64 (nn k) 7816392313619706465 = nn x ∧ Hid (x = 0x6c7967656e657261#64 ^^^ k) := ⟨_, xor_nn k 0x6c7967656e657261#64, BitVec.xor_comm _ _⟩
  obtain ⟨sd, ed, fd⟩ : ∃ x, bits .xor .u64 (nn l) 8387220255154660723 = nn x ∧ Hid (x = 0x7465646279746573#64 ^^^ l) := ⟨_, xor_nn l 0x7465646279746573#64, BitVec.xor_comm _ _⟩
  have HS0 : Hid (beg k l = ⟨sa, sb, sc, sd⟩) := by show _ = _; rw [unhide fa, unhide fb, unhide fc, unhide fd]; rfl
  have HF : Hid (hash key s = Sp.fin (runW (fun k => wd (padded s) (8 * k) 0) (s.size / 8 + 1) ⟨sa, sb, sc, sd⟩)) := by show _ = _; rw [hash_padded, unhide Ek, unhide El, unhide HS0]
  clear fa fb fc fd HS0 Ek El
  go_enter Try.func48, Try.ntmps48
  go_wp2_with fail
  refine (unhide HK _).mono ?_
  rintro e w1 ⟨rfl, rfl⟩
  go_wp2_with fail
  refine (unhide HL _).mono ?_
  rintro e w2 ⟨rfl, rfl⟩
  go_wp2_with fail
  obtain ⟨W0, hW0⟩ : ∃ W0, w2.alloc (.cells #[.int .u64 (nn sa), .int .u64 (nn sb), .int .u64 (nn sc), .int .u64 (nn sd)] 124) = W0 := ⟨_, rfl⟩
  obtain ⟨p, hp⟩ : ∃ p, w2.heap.size = p := ⟨_, rfl⟩
  have HR0 : Hid (Row W0 p (cel (St.l ⟨sa, sb, sc, sd⟩))) := by rw [← hW0, ← hp]; exact row_new w2 (cel [sa, sb, sc, sd]) 124
  have HB0 : Hid (Below w2.heap.size w2 W0) := by rw [← hW0]; exact (Below.refl _ _).alloc (Nat.le_refl _) _
  have HP : Hid (w2.heap.size ≤ p) := by rw [← hp]; exact Nat.le_refl _
  simp only [hW0, hp]
  clear hW0 hp HK HL
  obtain ⟨n, hn⟩ : ∃ n, s.size = n := ⟨_, rfl⟩
  have HPD : Hid (padded s = padZ s (padN n) ++ strOfNums [(n : Int) % 256]) := by show _ = _; rw [← hn]; rfl
  have HZ := hide (padded_size s)
  rw [hn] at HZ HF hs
  simp only [hn]
  go_loop [1] (fun t => ∃ j : Nat, j + n % 8 ≤ 7 ∧ t = .string (padZ s j)) (fun t => zOf n t)
  case atStart => exact ⟨0, by omega, rfl⟩
  case round =>
    obtain ⟨j, hj, rfl⟩ := hrel
    have hT := padZ_size s j
    have HT2 := hide (padZ_size s (j + 1))
    have HN : Hid (padZ s (j + 1) = padZ s j ++ ⟨#[0]⟩) := rfl
    rw [hn] at hT HT2
    by_cases hlt : j + n % 8 = 7
    · have HJ : Hid (padded s = padZ s j ++ strOfNums [(n : Int) % 256]) := by show _ = _; rw [unhide HPD]; congr 2; unfold padN; omega
      generalize padZ s j = T at *
      have hc : ((T.size : Int) % 8 != 7) = false := by simp; omega
      have hT' : (T.size : Int) ≤ 1000007 := by omega
      clear HN HT2
      have hw8 : IntKind.u8.wrap (n : Int) = (n : Int) % 256 := by rw [IntKind.wrap_u8']
      have hcv := conv_one W0 ((n : Int) % 256)
      have hXs : (strOfNums [(n : Int) % 256]).size = 1 := rfl
      generalize strOfNums [(n : Int) % 256] = X at *
      have ha := fun (wx : World) => run_string_add_sum (P := Try.prog) (w := wx) T X (by rw [hT, hXs]; omega)
      generalize hPT : T ++ X = PT at *
      have hz : PT.size = 8 * (n / 8 + 1) := by rw [← unhide HJ, unhide HZ]
      have hz1 : (PT.size : Int) ≤ 1000008 := by omega
      obtain ⟨f, Ef⟩ : ∃ f : Nat → Sp.B, Hid ((fun k => wd PT (8 * k) 0) = f) := ⟨_, rfl⟩
      rw [unhide HJ, unhide Ef] at HF
      clear HJ HPD HZ
      go_wp2_with fail
      have hr1 : Row (W0.alloc (.cells #[.int .u8 ((n : Int) % 256)] 5)) p (cel (St.l ⟨sa, sb, sc, sd⟩)) := (unhide HR0).on' ((Below.refl _ _).alloc (Nat.le_refl _) _)
      have hb1 : Below w2.heap.size w2 (W0.alloc (.cells #[.int .u8 ((n : Int) % 256)] 5)) := (unhide HB0).alloc (unhide HB0).size _
      generalize W0.alloc (.cells #[.int .u8 ((n : Int) % 256)] 5) = W1 at *
      have HR1 := hide hr1
      have HBW := hide hb1
      clear hr1 hb1 HR0 HB0 hcv ha
      obtain ⟨s0, Es0⟩ : ∃ v : St, Hid (v = ⟨sa, sb, sc, sd⟩) := ⟨_, rfl⟩
      rw [← unhide Es0] at HF HR1
      clear Es0
      go_loopw [10] (fun t W => ∃ k : Nat, k ≤ n / 8 + 1 ∧ t = .int .i64 (8 * (k : Int)) ∧ Row W p (cel (runW f k s0).l) ∧ But [p] W1 W) (fun t _ => 8 * (n / 8 + 1) - (intOf t).toNat)
      case atStart => exact ⟨0, Nat.zero_le _, rfl, unhide HR1, But.of (Below.refl _ _)⟩
      case round =>
        obtain ⟨k, hk, rfl, hr, hb⟩ := hrel
        clear HR1
        obtain ⟨v, Ev⟩ : ∃ v, Hid (v = runW f k s0) := ⟨_, rfl⟩
        rw [← unhide Ev] at hr
        by_cases hlt : k < n / 8 + 1
        · have hlt' : 8 * (k : Int) < PT.size := by omega
          obtain ⟨m, Em⟩ : ∃ m, Hid (f k = m) := ⟨_, rfl⟩
          have HWD : Hid (∀ W, Calls Try.prog 63 #[.string PT, .int .i64 (8 * (k : Int))] W fun e w' => e = .returned (.int .u64 (nn m)) ∧ w' = W) := fun W => by
            have h := word_any PT (8 * k) W (by rw [hz]; show _ ≤ 2 ^ 63 - 1; omega) (by omega)
            rw [Int.natCast_mul] at h
            rw [← unhide Em, ← unhide Ef]
            exact h
          obtain ⟨d1, e1, f1⟩ : ∃ x, bits .xor .u64 (nn v.d) (nn m) = nn x ∧ Hid (x = v.d ^^^ m) := ⟨_, xor_nn _ _, rfl⟩
          obtain ⟨t1, g1, H1⟩ : ∃ t1, Hid (t1 = rnd ⟨v.a, v.b, v.c, d1⟩) ∧ Hid (∀ W, Calls Try.prog 64 #[.agg #[.int .u64 (nn v.a), .int .u64 (nn v.b), .int .u64 (nn v.c), .int .u64 (nn d1)]] W fun e w' => e = .returned (.agg #[.int .u64 (nn t1.a), .int .u64 (nn t1.b), .int .u64 (nn t1.c), .int .u64 (nn t1.d)]) ∧ Below W.heap.size W w') := ⟨_, rfl, fun W => round_any ⟨v.a, v.b, v.c, d1⟩ W⟩
          obtain ⟨t2, g2, H2⟩ : ∃ t2, Hid (t2 = rnd t1) ∧ Hid (∀ W, Calls Try.prog 64 #[.agg #[.int .u64 (nn t1.a), .int .u64 (nn t1.b), .int .u64 (nn t1.c), .int .u64 (nn t1.d)]] W fun e w' => e = .returned (.agg #[.int .u64 (nn t2.a), .int .u64 (nn t2.b), .int .u64 (nn t2.c), .int .u64 (nn t2.d)]) ∧ Below W.heap.size W w') := ⟨_, rfl, fun W => round_any t1 W⟩
          obtain ⟨a1, e2, f2⟩ : ∃ x, bits .xor .u64 (nn t2.a) (nn m) = nn x ∧ Hid (x = t2.a ^^^ m) := ⟨_, xor_nn _ _, rfl⟩
          have HN : Hid (runW f (k + 1) s0 = ⟨a1, t2.b, t2.c, t2.d⟩) := by show _ = _; rw [runW, ← unhide Ev, unhide Em, unhide f2, unhide g2, unhide g1, unhide f1]; rfl
          have hr0 : Row wr p (cel [v.a, v.b, v.c, v.d]) := hr
          have c0 := hr0.cell 0 _ (cel_get (xs := [v.a, v.b, v.c, v.d]) (x := v.a) rfl)
          have y0 := hr0.free 0
          have c1 := hr0.cell 1 _ (cel_get (xs := [v.a, v.b, v.c, v.d]) (x := v.b) rfl)
          have y1 := hr0.free 1
          have c2 := hr0.cell 2 _ (cel_get (xs := [v.a, v.b, v.c, v.d]) (x := v.c) rfl)
          have y2 := hr0.free 2
          have c3 := hr0.cell 3 _ (cel_get (xs := [v.a, v.b, v.c, v.d]) (x := v.d) rfl)
          have y3 := hr0.free 3
          have HR := hide hr0
          have HB := hide hb
          clear hr hr0 hb
          go_wp2_with fail
          refine (unhide HWD _).mono ?_
          rintro e w3 ⟨rfl, rfl⟩
          go_wp2_with fail
          have hr3 : Row (w3.setCell ⟨p, 3, none⟩ (.int .u64 (nn d1))) p (cel [v.a, v.b, v.c, d1]) := by
            have := (unhide HR).set 3 (.int .u64 (nn d1))
            rw [cel_set] at this
            exact this
          have hb3 : But [p] W1 (w3.setCell ⟨p, 3, none⟩ (.int .u64 (nn d1))) := (unhide HB).setCell (g := p) (by simp) 3 _
          generalize w3.setCell ⟨p, 3, none⟩ (.int .u64 (nn d1)) = V3 at *
          refine (unhide H1 _).mono ?_
          rintro e w4 ⟨rfl, hb4⟩
          have hr4 := hr3.on' hb4
          have HR4 := hide hr4
          have HB4 := hide (hb3.on hb4)
          clear hr3 hb3 hr4 hb4 c0 c1 c2 c3 y0 y1 y2 y3 HR HB
          go_wp2_with fail
          refine (unhide H2 _).mono ?_
          rintro e w5 ⟨rfl, hb5⟩
          have hr5 := (unhide HR4).on' hb5
          have hb6 := (unhide HB4).on hb5
          have c0 := hr5.cell 0 _ (cel_get (xs := [v.a, v.b, v.c, d1]) (x := v.a) rfl)
          have y0 := hr5.free 0
          have c1 := hr5.cell 1 _ (cel_get (xs := [v.a, v.b, v.c, d1]) (x := v.b) rfl)
          have y1 := hr5.free 1
          have c2 := hr5.cell 2 _ (cel_get (xs := [v.a, v.b, v.c, d1]) (x := v.c) rfl)
          have y2 := hr5.free 2
          have c3 := hr5.cell 3 _ (cel_get (xs := [v.a, v.b, v.c, d1]) (x := d1) rfl)
          have y3 := hr5.free 3
          have HW : Hid (Row (setRow w5 p 0 (cel [t2.a, t2.b, t2.c, t2.d])) p (cel [t2.a, t2.b, t2.c, t2.d])) := row_all _ hr5 rfl
          have HWB := hide (hb6.setRow (g := p) (by simp) 0 (cel [t2.a, t2.b, t2.c, t2.d]))
          have HS : Hid (setRow w5 p 0 (cel [t2.a, t2.b, t2.c, t2.d]) = ((((w5).setCell ⟨p, 0, none⟩ (.int .u64 (nn t2.a))).setCell ⟨p, 1, none⟩ (.int .u64 (nn t2.b))).setCell ⟨p, 2, none⟩ (.int .u64 (nn t2.c))).setCell ⟨p, 3, none⟩ (.int .u64 (nn t2.d))) := rfl
          clear hr5 hb5 hb6 HR4 HB4
          go_wp2_with fail
          rw [← unhide HS]
          have hr7 : Row ((setRow w5 p 0 (cel [t2.a, t2.b, t2.c, t2.d])).setCell ⟨p, 0, none⟩ (.int .u64 (nn a1))) p (cel [a1, t2.b, t2.c, t2.d]) := by
            have := (unhide HW).set 0 (.int .u64 (nn a1))
            rw [cel_set] at this
            exact this
          have hb7 : But [p] W1 ((setRow w5 p 0 (cel [t2.a, t2.b, t2.c, t2.d])).setCell ⟨p, 0, none⟩ (.int .u64 (nn a1))) := (unhide HWB).setCell (g := p) (by simp) 0 _
          go_roundw
          case rel => exact ⟨k + 1, by omega, congrArg (Value.int .i64) (by omega), by rw [unhide HN]; exact hr7, hb7⟩
          case measure => simp [intOf]; omega
        · obtain rfl : k = n / 8 + 1 := by omega
          have hlt' : decide (8 * ((n / 8 + 1 : Nat) : Int) < PT.size) = false := by simp; omega
          have hlt2 : ¬ (8 * ((n : Int) / 8 + 1) < PT.size) := by omega
          obtain ⟨q, e1, f1⟩ : ∃ x, bits .xor .u64 (nn v.c) 255 = nn x ∧ Hid (x = v.c ^^^ 255#64) := ⟨_, xor_nn v.c 255#64, rfl⟩
          obtain ⟨t1, gt1, Ht1⟩ : ∃ t1, Hid (t1 = rnd ⟨v.a, v.b, q, v.d⟩) ∧ Hid (∀ W, Calls Try.prog 64 #[.agg #[.int .u64 (nn v.a), .int .u64 (nn v.b), .int .u64 (nn q), .int .u64 (nn v.d)]] W fun e w' => e = .returned (.agg #[.int .u64 (nn t1.a), .int .u64 (nn t1.b), .int .u64 (nn t1.c), .int .u64 (nn t1.d)]) ∧ Below W.heap.size W w') := ⟨_, rfl, fun W => round_any ⟨v.a, v.b, q, v.d⟩ W⟩
          obtain ⟨t2, gt2, Ht2⟩ : ∃ t2, Hid (t2 = rnd t1) ∧ Hid (∀ W, Calls Try.prog 64 #[.agg #[.int .u64 (nn t1.a), .int .u64 (nn t1.b), .int .u64 (nn t1.c), .int .u64 (nn t1.d)]] W fun e w' => e = .returned (.agg #[.int .u64 (nn t2.a), .int .u64 (nn t2.b), .int .u64 (nn t2.c), .int .u64 (nn t2.d)]) ∧ Below W.heap.size W w') := ⟨_, rfl, fun W => round_any t1 W⟩
          obtain ⟨t3, gt3, Ht3⟩ : ∃ t3, Hid (t3 = rnd t2) ∧ Hid (∀ W, Calls Try.prog 64 #[.agg #[.int .u64 (nn t2.a), .int .u64 (nn t2.b), .int .u64 (nn t2.c), .int .u64 (nn t2.d)]] W fun e w' => e = .returned (.agg #[.int .u64 (nn t3.a), .int .u64 (nn t3.b), .int .u64 (nn t3.c), .int .u64 (nn t3.d)]) ∧ Below W.heap.size W w') := ⟨_, rfl, fun W => round_any t2 W⟩
          obtain ⟨t4, gt4, Ht4⟩ : ∃ t4, Hid (t4 = rnd t3) ∧ Hid (∀ W, Calls Try.prog 64 #[.agg #[.int .u64 (nn t3.a), .int .u64 (nn t3.b), .int .u64 (nn t3.c), .int .u64 (nn t3.d)]] W fun e w' => e = .returned (.agg #[.int .u64 (nn t4.a), .int .u64 (nn t4.b), .int .u64 (nn t4.c), .int .u64 (nn t4.d)]) ∧ Below W.heap.size W w') := ⟨_, rfl, fun W => round_any t3 W⟩
          obtain ⟨x3, e3, f3⟩ : ∃ x, bits .xor .u64 (nn t4.a) (nn t4.b) = nn x ∧ Hid (x = t4.a ^^^ t4.b) := ⟨_, xor_nn _ _, rfl⟩
          obtain ⟨x4, e4, f4⟩ : ∃ x, bits .xor .u64 (nn x3) (nn t4.c) = nn x ∧ Hid (x = x3 ^^^ t4.c) := ⟨_, xor_nn _ _, rfl⟩
          obtain ⟨x5, e5, f5⟩ : ∃ x, bits .xor .u64 (nn x4) (nn t4.d) = nn x ∧ Hid (x = x4 ^^^ t4.d) := ⟨_, xor_nn _ _, rfl⟩
          have HE : Hid (hash key s = x5) := by show _ = _; rw [unhide HF, ← unhide Ev, unhide f5, unhide f4, unhide f3, unhide gt4, unhide gt3, unhide gt2, unhide gt1, unhide f1]; rfl
          clear f1 f3 f4 f5 gt1 gt2 gt3 gt4 Ev HF
          have hr0 : Row wr p (cel [v.a, v.b, v.c, v.d]) := hr
          have c0 := hr0.cell 0 _ (cel_get (xs := [v.a, v.b, v.c, v.d]) (x := v.a) rfl)
          have y0 := hr0.free 0
          have c1 := hr0.cell 1 _ (cel_get (xs := [v.a, v.b, v.c, v.d]) (x := v.b) rfl)
          have y1 := hr0.free 1
          have c2 := hr0.cell 2 _ (cel_get (xs := [v.a, v.b, v.c, v.d]) (x := v.c) rfl)
          have y2 := hr0.free 2
          have c3 := hr0.cell 3 _ (cel_get (xs := [v.a, v.b, v.c, v.d]) (x := v.d) rfl)
          have y3 := hr0.free 3
          have HR := hide hr0
          have HB := hide hb
          clear hr hr0 hb
          go_wp2_with fail
          have hr3 : Row (wr.setCell ⟨p, 2, none⟩ (.int .u64 (nn q))) p (cel [v.a, v.b, q, v.d]) := by
            have := (unhide HR).set 2 (.int .u64 (nn q))
            rw [cel_set] at this
            exact this
          have hb3 : But [p] W1 (wr.setCell ⟨p, 2, none⟩ (.int .u64 (nn q))) := (unhide HB).setCell (g := p) (by simp) 2 _
          generalize wr.setCell ⟨p, 2, none⟩ (.int .u64 (nn q)) = V3 at *
          refine (unhide Ht1 _).mono ?_
          rintro e u0 ⟨rfl, hw0⟩
          have hrr0 := (hr3).on' hw0
          have hbb0 := (hb3).on hw0
          have HR0 := hide hrr0
          have HB0 := hide hbb0
          clear hrr0 hbb0 hw0 hr3 hb3 c0 c1 c2 c3 y0 y1 y2 y3 HR HB
          go_wp2_with fail
          refine (unhide Ht2 _).mono ?_
          rintro e u1 ⟨rfl, hw1⟩
          have hrr1 := (unhide HR0).on' hw1
          have hbb1 := (unhide HB0).on hw1
          have HR1 := hide hrr1
          have HB1 := hide hbb1
          clear hrr1 hbb1 hw1
          go_wp2_with fail
          refine (unhide Ht3 _).mono ?_
          rintro e u2 ⟨rfl, hw2⟩
          have hrr2 := (unhide HR1).on' hw2
          have hbb2 := (unhide HB1).on hw2
          have HR2 := hide hrr2
          have HB2 := hide hbb2
          clear hrr2 hbb2 hw2
          go_wp2_with fail
          refine (unhide Ht4 _).mono ?_
          rintro e u3 ⟨rfl, hw3⟩
          have hrr3 := (unhide HR2).on' hw3
          have hbb3 := (unhide HB2).on hw3
          have c0 := hrr3.cell 0 _ (cel_get (xs := [v.a, v.b, q, v.d]) (x := v.a) rfl)
          have y0 := hrr3.free 0
          have c1 := hrr3.cell 1 _ (cel_get (xs := [v.a, v.b, q, v.d]) (x := v.b) rfl)
          have y1 := hrr3.free 1
          have c2 := hrr3.cell 2 _ (cel_get (xs := [v.a, v.b, q, v.d]) (x := q) rfl)
          have y2 := hrr3.free 2
          have c3 := hrr3.cell 3 _ (cel_get (xs := [v.a, v.b, q, v.d]) (x := v.d) rfl)
          have y3 := hrr3.free 3
          have HWB := hide (hbb3.setRow (g := p) (by simp) 0 (cel [t4.a, t4.b, t4.c, t4.d]))
          have HS : Hid (setRow u3 p 0 (cel [t4.a, t4.b, t4.c, t4.d]) = ((((u3).setCell ⟨p, 0, none⟩ (.int .u64 (nn t4.a))).setCell ⟨p, 1, none⟩ (.int .u64 (nn t4.b))).setCell ⟨p, 2, none⟩ (.int .u64 (nn t4.c))).setCell ⟨p, 3, none⟩ (.int .u64 (nn t4.d))) := rfl
          clear hrr3 hbb3 hw3 HR2 HB2
          go_wp2_with fail
          rw [← unhide HS]
          go_ret2
          exact ⟨by rw [unhide HE]; rfl, (unhide HWB).below (unhide HBW) (by intro x hx; have := unhide HP; simp at hx; omega)⟩
    · have hc : (((padZ s j).size : Int) % 8 != 7) = true := by simp; omega
      have ha := fun (wx : World) => run_string_add_sum (P := Try.prog) (w := wx) (padZ s j) ⟨#[0]⟩ (by rw [hT]; show _ + 1 ≤ _; omega)
      have HM : Hid (zOf n (.string (padZ s (j + 1))) < zOf n (.string (padZ s j))) := by show _ < _; rw [zOf_str, zOf_str, hT, unhide HT2]; omega
      rw [unhide HN] at HM
      have HX : Hid (∃ j' : Nat, j' + n % 8 ≤ 7 ∧ Value.string (padZ s j ++ ⟨#[0]⟩) = .string (padZ s j')) := ⟨j + 1, by omega, by rw [unhide HN]⟩
      generalize padZ s j = T at *
      go_wp2_with fail
      go_round
      case rel => exact unhide HX
      case measure => exact unhide HM
theorem rhash_any (key s : ByteArray) (w : World) (hs : s.size ≤ 1000000) :
    Calls Try.prog 48 #[.string key, .string s] w fun e w' => e = .returned (.tuple #[.int .u64 (nn (hashV key s)), .bool (key.size == 16)]) ∧ Below w.heap.size w w' := by
  unfold hashV
  by_cases hk : key.size = 16
  · rw [if_pos hk, beq_iff_eq.2 hk]
    exact rhash_yes key s w hk hs
  · rw [if_neg hk, beq_eq_false_iff_ne.2 hk]
    exact (rhash_no key s w hk).mono fun e w' ⟨he, hw⟩ => ⟨he, by rw [hw]; exact Below.refl _ _⟩
end Go.Proofs.Ytckkdgifjgkoaaa
