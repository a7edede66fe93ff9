/- PatchInside: a message about a packet that was turned tells of the packet's new ends, turned back of the old ones, and the packet in it is as it was, byte by byte, but for checks that stood for nothing; under the given ties of the package's listed variables. -/
import Derived.Test.YtpjaajeojiaeiaaGreatDoorPpLaid
import Derived.Test.YtpjaajeojiaeiaaGreatDoorPkOpM
import Derived.Test.YtpjaajeojiaeiaaGreatDoorPpEx
import Derived.Test.YtpjaajeojiaeiaaGreatDoorPpLaw
namespace Go.Proofs.YtpjaajeojiaeiaaGreatDoor.patchInside
open Go.ChangeShapes Go.WideShapes Go.ChangeAt Go.RowKit
open Go.ChangeMaps (open_string shut_string)
open MO
set_option linter.unusedVariables false
set_option maxHeartbeats 8000000 in
set_option maxRecDepth 100000 in
theorem walk (w : World) (hE : Ic.Env w) (a0 : Mk) (w0 : a0.Wf) (a1 : Int) (w1 : (Lit.int .u32 a1).wf = true) (a2 : Int) (w2 : (Lit.int .u32 a2).wf = true) (a3 : Int) (w3 : (Lit.int .u16 a3).wf = true) (a4 : Int) (w4 : (Lit.int .u16 a4).wf = true) :
    Calls Tryz.prog 7 #[a0.val, .int .u32 a1, .int .u32 a2, .int .u16 a3, .int .u16 a4] w fun e w' => e = .returned (.bool true) ∧ Below w.heap.size w w' := by
  obtain ⟨T, hT⟩ : ∃ T : Int, max a0.ttl 3 = T := ⟨_, rfl⟩
  have T0 : 3 ≤ T := by omega
  have T1 : T ≤ 255 := by have := w0.ttl.2; omega
  obtain ⟨s0, s1⟩ := bounds_u16 w3
  obtain ⟨d0, d1⟩ := bounds_u16 w4
  have k3 : IntKind.i64.wrap a3 = a3 := Oct.wraps_i64 _ s0 (by omega)
  have k4 : IntKind.i64.wrap a4 = a4 := Oct.wraps_i64 _ d0 (by omega)
  have k5 : IntKind.i64.wrap a0.sport = a0.sport := Oct.wraps_i64 _ w0.sport.1 (by have := w0.sport.2; omega)
  have k6 : IntKind.i64.wrap a0.dport = a0.dport := Oct.wraps_i64 _ w0.dport.1 (by have := w0.dport.2; omega)
  have kk : a0.kind.tmod 2 = a0.kind % 2 := Int.tmod_eq_emod_of_nonneg w0.kind.1
  have kw : IntKind.u8.wrap (a0.kind % 2) = a0.kind % 2 := by rw [IntKind.wrap_u8]; omega
  have kw2 : IntKind.u8.wrap (2 + a0.kind % 2) = 2 + a0.kind % 2 := by rw [IntKind.wrap_u8]; omega
  obtain ⟨m, hm⟩ : ∃ m : Mk, (⟨2 + a0.kind % 2, a0.src, a0.dst, a0.sport, a0.dport, a0.flags, T, a0.body, a0.zero, a0.frm, a0.dest⟩ : Mk) = m := ⟨_, rfl⟩
  have wm : m.Wf := by rw [← hm]; exact ⟨by show 0 ≤ 2 + a0.kind % 2 ∧ 2 + a0.kind % 2 ≤ 255; omega, w0.src, w0.dst, w0.sport, w0.dport, w0.flags, by show 0 ≤ T ∧ T ≤ 255; omega, w0.body, w0.frm, w0.dest⟩
  have hmk : ¬ m.kind % 4 < 2 := by rw [← hm]; show ¬ (2 + a0.kind % 2) % 4 < 2; omega
  have wt : (⟨m.dest, m.frm, a3, a4⟩ : En).Wf := ⟨wm.dest, wm.frm, bounds_u16 w3, bounds_u16 w4⟩
  obtain ⟨S, X, pp, c1, c2, c3, c4, c5, c6, c7, c8, c9, c10, c11, c12, c13⟩ := inside wm hmk (by rw [← hm]; exact T0) wt (bounds_u32 w1) (bounds_u32 w2)
  have sz := (frame_size wm).2
  have FA := hide (fun u => frame_any m u wm)
  have P1 := hide (fun u h => about_any (frameS m) a1 a2 ⟨m.dest, m.frm, a3, a4⟩ u (by omega) (bounds_u32 w1) (bounds_u32 w2) ⟨wt.src, wt.dst⟩ h)
  have CL := hide (fun u h => classify_any S u (by omega) h)
  have P2 := hide (fun u h => about_any S m.frm m.dest m.ends u (by omega) wm.frm wm.dest ⟨wm.src, wm.dst⟩ h)
  have CX := hide (fun u h => classify_any X u (by omega) h)
  rw [c1, c2] at P1
  rw [c3, c4] at CL
  rw [c5, c6] at P2
  rw [c7, c8] at CX
  have z1 : (S.size : Int) = (frameS m).size := by omega
  have z2 : (X.size : Int) = (frameS m).size := by omega
  have z3 : 48 ≤ ((frameS m).size : Int) := by omega
  clear c1 c2 c3 c4 c5 c6 c7 c8 c9 c10 c11
  generalize frameS m = F at *
  obtain ⟨n, hn⟩ : ∃ n : Int, (F.size : Int) = n := ⟨_, rfl⟩
  rw [hn] at z1 z2 z3 CL CX
  have y38 : (38 : Int) ≤ n := by omega
  clear sz wt wm hmk
  subst hm
  simp only [Mk.ends] at P2 CX
  change Hid (∀ u, Ic.Env u → Calls _ _ _ u fun e w' => e = .returned (.tuple #[(Pk.val ⟨2, 20, n, ⟨pp, a0.dest, a0.frm, a3, a4⟩, 0, T - 1, a1, a2, 28, 48⟩), .int .i64 0]) ∧ _) at CL
  change Hid (∀ u, Ic.Env u → Calls _ _ _ u fun e w' => e = .returned (.tuple #[(Pk.val ⟨2, 20, n, ⟨pp, a0.src, a0.dst, a0.sport, a0.dport⟩, 0, T - 1 - 1, a0.frm, a0.dest, 28, 48⟩), .int .i64 0]) ∧ _) at CX
  obtain ⟨N1, hN1⟩ : ∃ N1 : Int, T - 1 = N1 := ⟨_, rfl⟩
  rw [hN1] at CL CX
  obtain ⟨N2, hN2⟩ : ∃ N2 : Int, N1 - 1 = N2 := ⟨_, rfl⟩
  rw [hN2] at CX
  have HN := hide (And.intro hN1 hN2)
  clear hN1 hN2
  obtain ⟨E1, hE1⟩ : ∃ E, F.extract 28 38 = E := ⟨_, rfl⟩
  obtain ⟨E2, hE2⟩ : ∃ E, F.extract 40 48 = E := ⟨_, rfl⟩
  rw [hE1] at c12
  rw [hE2] at c13
  have KE := hide (fun u h => examples_any u h)
  have r0 := row_new w a0.cells 25
  have bel := alloc_on' w (.cells a0.cells.toArray 25)
  go_enter Tryz.func7, Tryz.ntmps7
  have r0c0 := r0.cell 0 _ rfl
  have r0c1 := r0.cell 1 _ rfl
  have r0c2 := r0.cell 2 _ rfl
  have r0c3 := r0.cell 3 _ rfl
  have r0c4 := r0.cell 4 _ rfl
  have r0c5 := r0.cell 5 _ rfl
  have r0c6 := r0.cell 6 _ rfl
  have r0c7 := r0.cell 7 _ rfl
  have r0c8 := r0.cell 8 _ rfl
  have r0c9 := r0.cell 9 _ rfl
  have r0c10 := r0.cell 10 _ rfl
  go_wp2_with fail
  refine (unhide KE _ (hE.on bel)).mono ?_
  rintro e v1 ⟨rfl, hb⟩
  replace r0 := r0.on' hb
  replace bel := Below.then bel hb
  clear r0c0 r0c1 r0c2 r0c3 r0c4 r0c5 r0c6 r0c7 r0c8 r0c9 r0c10
  clear hb
  have k0c0 := r0.cell 0 _ rfl
  have sr0c2 := r0.cell 0 _ rfl
  have sr0f2 := r0.free 0
  replace r0 := r0.set 0 (.int .u8 (2 + a0.kind % 2))
  replace bel := bel.setCell (p := ⟨w.heap.size, 0, none⟩) (show w.heap.size ≤ w.heap.size by omega) (.int .u8 (2 + a0.kind % 2))
  obtain ⟨V2, eV2⟩ : ∃ V, v1.setCell ⟨w.heap.size, 0, none⟩ (.int .u8 (2 + a0.kind % 2)) = V := ⟨_, rfl⟩
  rw [eV2] at r0 bel
  replace r0 : Row V2 w.heap.size ([.int .u8 (2 + a0.kind % 2), .int .u32 a0.src, .int .u32 a0.dst, .int .u16 a0.sport, .int .u16 a0.dport, .int .u8 a0.flags, .int .u8 a0.ttl, .string a0.body, .bool a0.zero, .int .u32 a0.frm, .int .u32 a0.dest]) := r0
  have k1c6 := r0.cell 6 _ rfl
  have sr0c3 := r0.cell 6 _ rfl
  have sr0f3 := r0.free 6
  replace r0 := r0.set 6 (.int .u8 T)
  replace bel := bel.setCell (p := ⟨w.heap.size, 6, none⟩) (show w.heap.size ≤ w.heap.size by omega) (.int .u8 T)
  obtain ⟨V3, eV3⟩ : ∃ V, V2.setCell ⟨w.heap.size, 6, none⟩ (.int .u8 T) = V := ⟨_, rfl⟩
  rw [eV3] at r0 bel
  replace r0 : Row V3 w.heap.size ([.int .u8 (2 + a0.kind % 2), .int .u32 a0.src, .int .u32 a0.dst, .int .u16 a0.sport, .int .u16 a0.dport, .int .u8 a0.flags, .int .u8 T, .string a0.body, .bool a0.zero, .int .u32 a0.frm, .int .u32 a0.dest]) := r0
  have r0c0 := r0.cell 0 _ rfl
  have r0c1 := r0.cell 1 _ rfl
  have r0c2 := r0.cell 2 _ rfl
  have r0c3 := r0.cell 3 _ rfl
  have r0c4 := r0.cell 4 _ rfl
  have r0c5 := r0.cell 5 _ rfl
  have r0c6 := r0.cell 6 _ rfl
  have r0c7 := r0.cell 7 _ rfl
  have r0c8 := r0.cell 8 _ rfl
  have r0c9 := r0.cell 9 _ rfl
  have r0c10 := r0.cell 10 _ rfl
  go_wp2_with fail
  refine (unhide FA _).mono ?_
  rintro e v4 ⟨rfl, hb⟩
  replace r0 := r0.on' hb
  replace bel := Below.then bel hb
  clear k0c0 sr0c2 sr0f2 eV2 k1c6 sr0c3 sr0f3 eV3 r0c0 r0c1 r0c2 r0c3 r0c4 r0c5 r0c6 r0c7 r0c8 r0c9 r0c10
  clear hb
  have r0c0 := r0.cell 0 _ rfl
  have r0c1 := r0.cell 1 _ rfl
  have r0c2 := r0.cell 2 _ rfl
  have r0c3 := r0.cell 3 _ rfl
  have r0c4 := r0.cell 4 _ rfl
  have r0c5 := r0.cell 5 _ rfl
  have r0c6 := r0.cell 6 _ rfl
  have r0c7 := r0.cell 7 _ rfl
  have r0c8 := r0.cell 8 _ rfl
  have r0c9 := r0.cell 9 _ rfl
  have r0c10 := r0.cell 10 _ rfl
  go_wp2_with fail
  refine (unhide P1 _ (hE.on bel)).mono ?_
  rintro e v5 ⟨rfl, hb⟩
  replace r0 := r0.on' hb
  replace bel := Below.then bel hb
  clear r0c0 r0c1 r0c2 r0c3 r0c4 r0c5 r0c6 r0c7 r0c8 r0c9 r0c10
  clear hb
  go_wp2_with fail
  refine (unhide CL _ (hE.on bel)).mono ?_
  rintro e v6 ⟨rfl, hb⟩
  replace r0 := r0.on' hb
  replace bel := Below.then bel hb
  clear hb
  have lerc := bel.size
  have ltr0rc := r0.lt
  have nn := alloc_on' v6 (.cells #[.int .i64 2, .int .i64 20, .int .i64 n, .int .i64 pp, .int .u32 a0.dest, .int .u32 a0.frm, .int .i64 a3, .int .i64 a4, .int .i64 0, .int .i64 N1, .int .u32 a1, .int .u32 a2, .int .i64 28, .int .i64 48] 45)
  have rc := row_new v6 [.int .i64 2, .int .i64 20, .int .i64 n, .int .i64 pp, .int .u32 a0.dest, .int .u32 a0.frm, .int .i64 a3, .int .i64 a4, .int .i64 0, .int .i64 N1, .int .u32 a1, .int .u32 a2, .int .i64 28, .int .i64 48] 45
  obtain ⟨V7, eV7⟩ : ∃ V, v6.alloc (.cells #[.int .i64 2, .int .i64 20, .int .i64 n, .int .i64 pp, .int .u32 a0.dest, .int .u32 a0.frm, .int .i64 a3, .int .i64 a4, .int .i64 0, .int .i64 N1, .int .u32 a1, .int .u32 a2, .int .i64 28, .int .i64 48] 45) = V := ⟨_, rfl⟩
  rw [eV7] at nn rc
  replace r0 := r0.on' nn
  replace bel := Below.then bel nn
  clear nn
  have r0c0 := r0.cell 0 _ rfl
  have r0c1 := r0.cell 1 _ rfl
  have r0c2 := r0.cell 2 _ rfl
  have r0c3 := r0.cell 3 _ rfl
  have r0c4 := r0.cell 4 _ rfl
  have r0c5 := r0.cell 5 _ rfl
  have r0c6 := r0.cell 6 _ rfl
  have r0c7 := r0.cell 7 _ rfl
  have r0c8 := r0.cell 8 _ rfl
  have r0c9 := r0.cell 9 _ rfl
  have r0c10 := r0.cell 10 _ rfl
  go_wp2_with fail
  refine (unhide P2 _ (hE.on bel)).mono ?_
  rintro e v8 ⟨rfl, hb⟩
  replace r0 := r0.on' hb
  replace rc := rc.on' hb
  replace bel := Below.then bel hb
  clear eV7 r0c0 r0c1 r0c2 r0c3 r0c4 r0c5 r0c6 r0c7 r0c8 r0c9 r0c10
  clear hb
  go_wp2_with fail
  refine (unhide CX _ (hE.on bel)).mono ?_
  rintro e v9 ⟨rfl, hb⟩
  replace r0 := r0.on' hb
  replace rc := rc.on' hb
  replace bel := Below.then bel hb
  clear hb
  have lerx := bel.size
  have ltr0rx := r0.lt
  have ltrcrx := rc.lt
  have nn := alloc_on' v9 (.cells #[.int .i64 2, .int .i64 20, .int .i64 n, .int .i64 pp, .int .u32 a0.src, .int .u32 a0.dst, .int .i64 a0.sport, .int .i64 a0.dport, .int .i64 0, .int .i64 N2, .int .u32 a0.frm, .int .u32 a0.dest, .int .i64 28, .int .i64 48] 45)
  have rx := row_new v9 [.int .i64 2, .int .i64 20, .int .i64 n, .int .i64 pp, .int .u32 a0.src, .int .u32 a0.dst, .int .i64 a0.sport, .int .i64 a0.dport, .int .i64 0, .int .i64 N2, .int .u32 a0.frm, .int .u32 a0.dest, .int .i64 28, .int .i64 48] 45
  obtain ⟨V10, eV10⟩ : ∃ V, v9.alloc (.cells #[.int .i64 2, .int .i64 20, .int .i64 n, .int .i64 pp, .int .u32 a0.src, .int .u32 a0.dst, .int .i64 a0.sport, .int .i64 a0.dport, .int .i64 0, .int .i64 N2, .int .u32 a0.frm, .int .u32 a0.dest, .int .i64 28, .int .i64 48] 45) = V := ⟨_, rfl⟩
  rw [eV10] at nn rx
  replace r0 := r0.on' nn
  replace rc := rc.on' nn
  replace bel := Below.then bel nn
  clear nn
  have r0c0 := r0.cell 0 _ rfl
  have r0c1 := r0.cell 1 _ rfl
  have r0c2 := r0.cell 2 _ rfl
  have r0c3 := r0.cell 3 _ rfl
  have r0c4 := r0.cell 4 _ rfl
  have r0c5 := r0.cell 5 _ rfl
  have r0c6 := r0.cell 6 _ rfl
  have r0c7 := r0.cell 7 _ rfl
  have r0c8 := r0.cell 8 _ rfl
  have r0c9 := r0.cell 9 _ rfl
  have r0c10 := r0.cell 10 _ rfl
  have rcc0 := rc.cell 0 _ rfl
  have rcc1 := rc.cell 1 _ rfl
  have rcc2 := rc.cell 2 _ rfl
  have rcc3 := rc.cell 3 _ rfl
  have rcc4 := rc.cell 4 _ rfl
  have rcc5 := rc.cell 5 _ rfl
  have rcc6 := rc.cell 6 _ rfl
  have rcc7 := rc.cell 7 _ rfl
  have rcc8 := rc.cell 8 _ rfl
  have rcc9 := rc.cell 9 _ rfl
  have rcc10 := rc.cell 10 _ rfl
  have rcc11 := rc.cell 11 _ rfl
  have rcc12 := rc.cell 12 _ rfl
  have rcc13 := rc.cell 13 _ rfl
  have rxc0 := rx.cell 0 _ rfl
  have rxc1 := rx.cell 1 _ rfl
  have rxc2 := rx.cell 2 _ rfl
  have rxc3 := rx.cell 3 _ rfl
  have rxc4 := rx.cell 4 _ rfl
  have rxc5 := rx.cell 5 _ rfl
  have rxc6 := rx.cell 6 _ rfl
  have rxc7 := rx.cell 7 _ rfl
  have rxc8 := rx.cell 8 _ rfl
  have rxc9 := rx.cell 9 _ rfl
  have rxc10 := rx.cell 10 _ rfl
  have rxc11 := rx.cell 11 _ rfl
  have rxc12 := rx.cell 12 _ rfl
  have rxc13 := rx.cell 13 _ rfl
  go_wp2_with fail
  clear eV10 r0c0 r0c1 r0c2 r0c3 r0c4 r0c5 r0c6 r0c7 r0c8 r0c9 r0c10 rcc0 rcc1 rcc2 rcc3 rcc4 rcc5 rcc6 rcc7 rcc8 rcc9 rcc10 rcc11 rcc12 rcc13 rxc0 rxc1 rxc2 rxc3 rxc4 rxc5 rxc6 rxc7 rxc8 rxc9 rxc10 rxc11 rxc12 rxc13
  refine wp_region_grow (by kernel_rfl) [.bool true, .bool true, .pointer (some ⟨v6.heap.size, 10, none⟩), .int .u32 a1, .int .u32 a1, .bool true, .bool true, .bool true, .pointer (some ⟨v6.heap.size, 11, none⟩), .int .u32 a2, .int .u32 a2, .bool true, .bool true, .bool true, .pointer (some ⟨v6.heap.size, 3, none⟩), .pointer (some ⟨v6.heap.size, 4, none⟩), .int .u32 a0.dest, .pointer (some ⟨w.heap.size, 10, none⟩), .int .u32 a0.dest, .bool true, .bool true, .bool true, .pointer (some ⟨v6.heap.size, 3, none⟩), .pointer (some ⟨v6.heap.size, 5, none⟩), .int .u32 a0.frm, .pointer (some ⟨w.heap.size, 9, none⟩), .int .u32 a0.frm, .bool true, .bool true, .bool true, .pointer (some ⟨v6.heap.size, 3, none⟩), .pointer (some ⟨v6.heap.size, 6, none⟩), .int .i64 a3, .int .u16 a3, .int .i64 a3, .bool true, .bool true, .bool true, .pointer (some ⟨v6.heap.size, 3, none⟩), .pointer (some ⟨v6.heap.size, 7, none⟩), .int .i64 a4, .int .u16 a4, .int .i64 a4, .bool true, .bool true, .bool true, .pointer (some ⟨v9.heap.size, 10, none⟩), .int .u32 a0.frm, .pointer (some ⟨w.heap.size, 9, none⟩), .int .u32 a0.frm, .bool true, .bool true, .bool true, .pointer (some ⟨v9.heap.size, 11, none⟩), .int .u32 a0.dest, .pointer (some ⟨w.heap.size, 10, none⟩), .int .u32 a0.dest, .bool true, .bool true, .bool true, .pointer (some ⟨v9.heap.size, 3, none⟩), .pointer (some ⟨v9.heap.size, 4, none⟩), .int .u32 a0.src, .pointer (some ⟨w.heap.size, 1, none⟩), .int .u32 a0.src, .bool true, .bool true, .bool true, .pointer (some ⟨v9.heap.size, 3, none⟩), .pointer (some ⟨v9.heap.size, 5, none⟩), .int .u32 a0.dst, .pointer (some ⟨w.heap.size, 2, none⟩), .int .u32 a0.dst, .bool true, .bool true, .bool true, .pointer (some ⟨v9.heap.size, 3, none⟩), .pointer (some ⟨v9.heap.size, 6, none⟩), .int .i64 a0.sport, .pointer (some ⟨w.heap.size, 3, none⟩), .int .u16 a0.sport, .int .i64 a0.sport, .bool true, .bool true, .bool true, .pointer (some ⟨v9.heap.size, 3, none⟩), .pointer (some ⟨v9.heap.size, 7, none⟩), .int .i64 a0.dport, .pointer (some ⟨w.heap.size, 4, none⟩), .int .u16 a0.dport, .int .i64 a0.dport, .bool true, .bool true, .bool true, .string X, .string E1, .string F, .string E1, .bool true, .bool true, .bool true, .string X, .string E2, .string F, .string E2, .bool true, .bool true, .bool true] (by kernel_rfl) ?op ?fin
  case op =>
    intro i o bx u ho hbel hS
    match i, ho with
    | 0, ho =>
      obtain rfl := Option.some.inj ho
      have d11 : bx.tmps.getD 11 undef = .bool true := hS.base 11 (by kernel_rfl)
      refine .inl ⟨rfl, ends_value' (c := .bool true) ?_⟩
      simp [execOp, Act.eval, d11]
    | 1, ho =>
      obtain rfl := Option.some.inj ho
      have d109 : bx.tmps.getD 109 undef = .bool true := hS.dep 0 109 (by kernel_rfl) (by kernel_rfl)
      refine .inl ⟨rfl, ends_value' (c := .bool true) ?_⟩
      simp [execOp, Act.eval, d109]
    | 2, ho =>
      obtain rfl := Option.some.inj ho
      have d15 : bx.tmps.getD 15 undef = .pointer (some ⟨v6.heap.size, 0, none⟩) := hS.base 15 (by kernel_rfl)
      have gd : bx.tmps.getD 110 undef = .bool true := hS.dep 1 110 (by kernel_rfl) (by kernel_rfl)
      refine .inl ⟨wanted_yes (j := 1) (t := 110) (c := true) (by kernel_rfl) (by kernel_rfl) gd, ends_value' (c := .pointer (some ⟨v6.heap.size, 10, none⟩)) ?_⟩
      simp [Act.eval, d15, go_sem]
    | 3, ho =>
      obtain rfl := Option.some.inj ho
      have d111 : bx.tmps.getD 111 undef = .pointer (some ⟨v6.heap.size, 10, none⟩) := hS.dep 2 111 (by kernel_rfl) (by kernel_rfl)
      have gd : bx.tmps.getD 110 undef = .bool true := hS.dep 1 110 (by kernel_rfl) (by kernel_rfl)
      have hl := ((rc.on' (pdrew hbel)).cell 10 _ rfl)
      refine .inl ⟨wanted_yes (j := 1) (t := 110) (c := true) (by kernel_rfl) (by kernel_rfl) gd, ends_value' (c := .int .u32 a1) ?_⟩
      simp [Act.eval, d111, go_sem, hl]
    | 4, ho =>
      obtain rfl := Option.some.inj ho
      have d1 : bx.tmps.getD 1 undef = .int .u32 a1 := hS.base 1 (by kernel_rfl)
      have gd : bx.tmps.getD 110 undef = .bool true := hS.dep 1 110 (by kernel_rfl) (by kernel_rfl)
      refine .inl ⟨wanted_yes (j := 1) (t := 110) (c := true) (by kernel_rfl) (by kernel_rfl) gd, ends_value' (c := .int .u32 a1) ?_⟩
      simp [execOp, Act.eval, d1]
    | 5, ho =>
      obtain rfl := Option.some.inj ho
      have d112 : bx.tmps.getD 112 undef = .int .u32 a1 := hS.dep 3 112 (by kernel_rfl) (by kernel_rfl)
      have d113 : bx.tmps.getD 113 undef = .int .u32 a1 := hS.dep 4 113 (by kernel_rfl) (by kernel_rfl)
      have gd : bx.tmps.getD 110 undef = .bool true := hS.dep 1 110 (by kernel_rfl) (by kernel_rfl)
      refine .inl ⟨wanted_yes (j := 1) (t := 110) (c := true) (by kernel_rfl) (by kernel_rfl) gd, ends_value' (c := .bool true) ?_⟩
      simp [Act.eval, d112, d113, go_sem]
    | 6, ho =>
      obtain rfl := Option.some.inj ho
      have d110 : bx.tmps.getD 110 undef = .bool true := hS.dep 1 110 (by kernel_rfl) (by kernel_rfl)
      have d114 : bx.tmps.getD 114 undef = .bool true := hS.dep 5 114 (by kernel_rfl) (by kernel_rfl)
      refine .inl ⟨rfl, ends_value' (c := .bool true) ?_⟩
      simp [Act.eval, d110, d114, go_sem]
    | 7, ho =>
      obtain rfl := Option.some.inj ho
      have d115 : bx.tmps.getD 115 undef = .bool true := hS.dep 6 115 (by kernel_rfl) (by kernel_rfl)
      refine .inl ⟨rfl, ends_value' (c := .bool true) ?_⟩
      simp [execOp, Act.eval, d115]
    | 8, ho =>
      obtain rfl := Option.some.inj ho
      have d15 : bx.tmps.getD 15 undef = .pointer (some ⟨v6.heap.size, 0, none⟩) := hS.base 15 (by kernel_rfl)
      have gd : bx.tmps.getD 116 undef = .bool true := hS.dep 7 116 (by kernel_rfl) (by kernel_rfl)
      refine .inl ⟨wanted_yes (j := 7) (t := 116) (c := true) (by kernel_rfl) (by kernel_rfl) gd, ends_value' (c := .pointer (some ⟨v6.heap.size, 11, none⟩)) ?_⟩
      simp [Act.eval, d15, go_sem]
    | 9, ho =>
      obtain rfl := Option.some.inj ho
      have d117 : bx.tmps.getD 117 undef = .pointer (some ⟨v6.heap.size, 11, none⟩) := hS.dep 8 117 (by kernel_rfl) (by kernel_rfl)
      have gd : bx.tmps.getD 116 undef = .bool true := hS.dep 7 116 (by kernel_rfl) (by kernel_rfl)
      have hl := ((rc.on' (pdrew hbel)).cell 11 _ rfl)
      refine .inl ⟨wanted_yes (j := 7) (t := 116) (c := true) (by kernel_rfl) (by kernel_rfl) gd, ends_value' (c := .int .u32 a2) ?_⟩
      simp [Act.eval, d117, go_sem, hl]
    | 10, ho =>
      obtain rfl := Option.some.inj ho
      have d2 : bx.tmps.getD 2 undef = .int .u32 a2 := hS.base 2 (by kernel_rfl)
      have gd : bx.tmps.getD 116 undef = .bool true := hS.dep 7 116 (by kernel_rfl) (by kernel_rfl)
      refine .inl ⟨wanted_yes (j := 7) (t := 116) (c := true) (by kernel_rfl) (by kernel_rfl) gd, ends_value' (c := .int .u32 a2) ?_⟩
      simp [execOp, Act.eval, d2]
    | 11, ho =>
      obtain rfl := Option.some.inj ho
      have d118 : bx.tmps.getD 118 undef = .int .u32 a2 := hS.dep 9 118 (by kernel_rfl) (by kernel_rfl)
      have d119 : bx.tmps.getD 119 undef = .int .u32 a2 := hS.dep 10 119 (by kernel_rfl) (by kernel_rfl)
      have gd : bx.tmps.getD 116 undef = .bool true := hS.dep 7 116 (by kernel_rfl) (by kernel_rfl)
      refine .inl ⟨wanted_yes (j := 7) (t := 116) (c := true) (by kernel_rfl) (by kernel_rfl) gd, ends_value' (c := .bool true) ?_⟩
      simp [Act.eval, d118, d119, go_sem]
    | 12, ho =>
      obtain rfl := Option.some.inj ho
      have d116 : bx.tmps.getD 116 undef = .bool true := hS.dep 7 116 (by kernel_rfl) (by kernel_rfl)
      have d120 : bx.tmps.getD 120 undef = .bool true := hS.dep 11 120 (by kernel_rfl) (by kernel_rfl)
      refine .inl ⟨rfl, ends_value' (c := .bool true) ?_⟩
      simp [Act.eval, d116, d120, go_sem]
    | 13, ho =>
      obtain rfl := Option.some.inj ho
      have d121 : bx.tmps.getD 121 undef = .bool true := hS.dep 12 121 (by kernel_rfl) (by kernel_rfl)
      refine .inl ⟨rfl, ends_value' (c := .bool true) ?_⟩
      simp [execOp, Act.eval, d121]
    | 14, ho =>
      obtain rfl := Option.some.inj ho
      have d15 : bx.tmps.getD 15 undef = .pointer (some ⟨v6.heap.size, 0, none⟩) := hS.base 15 (by kernel_rfl)
      have gd : bx.tmps.getD 122 undef = .bool true := hS.dep 13 122 (by kernel_rfl) (by kernel_rfl)
      refine .inl ⟨wanted_yes (j := 13) (t := 122) (c := true) (by kernel_rfl) (by kernel_rfl) gd, ends_value' (c := .pointer (some ⟨v6.heap.size, 3, none⟩)) ?_⟩
      simp [Act.eval, d15, go_sem]
    | 15, ho =>
      obtain rfl := Option.some.inj ho
      have d123 : bx.tmps.getD 123 undef = .pointer (some ⟨v6.heap.size, 3, none⟩) := hS.dep 14 123 (by kernel_rfl) (by kernel_rfl)
      have gd : bx.tmps.getD 122 undef = .bool true := hS.dep 13 122 (by kernel_rfl) (by kernel_rfl)
      refine .inl ⟨wanted_yes (j := 13) (t := 122) (c := true) (by kernel_rfl) (by kernel_rfl) gd, ends_value' (c := .pointer (some ⟨v6.heap.size, 4, none⟩)) ?_⟩
      simp [Act.eval, d123, go_sem]
    | 16, ho =>
      obtain rfl := Option.some.inj ho
      have d124 : bx.tmps.getD 124 undef = .pointer (some ⟨v6.heap.size, 4, none⟩) := hS.dep 15 124 (by kernel_rfl) (by kernel_rfl)
      have gd : bx.tmps.getD 122 undef = .bool true := hS.dep 13 122 (by kernel_rfl) (by kernel_rfl)
      have hl := ((rc.on' (pdrew hbel)).cell 4 _ rfl)
      refine .inl ⟨wanted_yes (j := 13) (t := 122) (c := true) (by kernel_rfl) (by kernel_rfl) gd, ends_value' (c := .int .u32 a0.dest) ?_⟩
      simp [Act.eval, d124, go_sem, hl]
    | 17, ho =>
      obtain rfl := Option.some.inj ho
      have d5 : bx.tmps.getD 5 undef = .pointer (some ⟨w.heap.size, 0, none⟩) := hS.base 5 (by kernel_rfl)
      have gd : bx.tmps.getD 122 undef = .bool true := hS.dep 13 122 (by kernel_rfl) (by kernel_rfl)
      refine .inl ⟨wanted_yes (j := 13) (t := 122) (c := true) (by kernel_rfl) (by kernel_rfl) gd, ends_value' (c := .pointer (some ⟨w.heap.size, 10, none⟩)) ?_⟩
      simp [Act.eval, d5, go_sem]
    | 18, ho =>
      obtain rfl := Option.some.inj ho
      have d126 : bx.tmps.getD 126 undef = .pointer (some ⟨w.heap.size, 10, none⟩) := hS.dep 17 126 (by kernel_rfl) (by kernel_rfl)
      have gd : bx.tmps.getD 122 undef = .bool true := hS.dep 13 122 (by kernel_rfl) (by kernel_rfl)
      have hl := ((r0.on' (pdrew hbel)).cell 10 _ rfl)
      refine .inl ⟨wanted_yes (j := 13) (t := 122) (c := true) (by kernel_rfl) (by kernel_rfl) gd, ends_value' (c := .int .u32 a0.dest) ?_⟩
      simp [Act.eval, d126, go_sem, hl]
    | 19, ho =>
      obtain rfl := Option.some.inj ho
      have d125 : bx.tmps.getD 125 undef = .int .u32 a0.dest := hS.dep 16 125 (by kernel_rfl) (by kernel_rfl)
      have d127 : bx.tmps.getD 127 undef = .int .u32 a0.dest := hS.dep 18 127 (by kernel_rfl) (by kernel_rfl)
      have gd : bx.tmps.getD 122 undef = .bool true := hS.dep 13 122 (by kernel_rfl) (by kernel_rfl)
      refine .inl ⟨wanted_yes (j := 13) (t := 122) (c := true) (by kernel_rfl) (by kernel_rfl) gd, ends_value' (c := .bool true) ?_⟩
      simp [Act.eval, d125, d127, go_sem]
    | 20, ho =>
      obtain rfl := Option.some.inj ho
      have d122 : bx.tmps.getD 122 undef = .bool true := hS.dep 13 122 (by kernel_rfl) (by kernel_rfl)
      have d128 : bx.tmps.getD 128 undef = .bool true := hS.dep 19 128 (by kernel_rfl) (by kernel_rfl)
      refine .inl ⟨rfl, ends_value' (c := .bool true) ?_⟩
      simp [Act.eval, d122, d128, go_sem]
    | 21, ho =>
      obtain rfl := Option.some.inj ho
      have d129 : bx.tmps.getD 129 undef = .bool true := hS.dep 20 129 (by kernel_rfl) (by kernel_rfl)
      refine .inl ⟨rfl, ends_value' (c := .bool true) ?_⟩
      simp [execOp, Act.eval, d129]
    | 22, ho =>
      obtain rfl := Option.some.inj ho
      have d15 : bx.tmps.getD 15 undef = .pointer (some ⟨v6.heap.size, 0, none⟩) := hS.base 15 (by kernel_rfl)
      have gd : bx.tmps.getD 130 undef = .bool true := hS.dep 21 130 (by kernel_rfl) (by kernel_rfl)
      refine .inl ⟨wanted_yes (j := 21) (t := 130) (c := true) (by kernel_rfl) (by kernel_rfl) gd, ends_value' (c := .pointer (some ⟨v6.heap.size, 3, none⟩)) ?_⟩
      simp [Act.eval, d15, go_sem]
    | 23, ho =>
      obtain rfl := Option.some.inj ho
      have d131 : bx.tmps.getD 131 undef = .pointer (some ⟨v6.heap.size, 3, none⟩) := hS.dep 22 131 (by kernel_rfl) (by kernel_rfl)
      have gd : bx.tmps.getD 130 undef = .bool true := hS.dep 21 130 (by kernel_rfl) (by kernel_rfl)
      refine .inl ⟨wanted_yes (j := 21) (t := 130) (c := true) (by kernel_rfl) (by kernel_rfl) gd, ends_value' (c := .pointer (some ⟨v6.heap.size, 5, none⟩)) ?_⟩
      simp [Act.eval, d131, go_sem]
    | 24, ho =>
      obtain rfl := Option.some.inj ho
      have d132 : bx.tmps.getD 132 undef = .pointer (some ⟨v6.heap.size, 5, none⟩) := hS.dep 23 132 (by kernel_rfl) (by kernel_rfl)
      have gd : bx.tmps.getD 130 undef = .bool true := hS.dep 21 130 (by kernel_rfl) (by kernel_rfl)
      have hl := ((rc.on' (pdrew hbel)).cell 5 _ rfl)
      refine .inl ⟨wanted_yes (j := 21) (t := 130) (c := true) (by kernel_rfl) (by kernel_rfl) gd, ends_value' (c := .int .u32 a0.frm) ?_⟩
      simp [Act.eval, d132, go_sem, hl]
    | 25, ho =>
      obtain rfl := Option.some.inj ho
      have d5 : bx.tmps.getD 5 undef = .pointer (some ⟨w.heap.size, 0, none⟩) := hS.base 5 (by kernel_rfl)
      have gd : bx.tmps.getD 130 undef = .bool true := hS.dep 21 130 (by kernel_rfl) (by kernel_rfl)
      refine .inl ⟨wanted_yes (j := 21) (t := 130) (c := true) (by kernel_rfl) (by kernel_rfl) gd, ends_value' (c := .pointer (some ⟨w.heap.size, 9, none⟩)) ?_⟩
      simp [Act.eval, d5, go_sem]
    | 26, ho =>
      obtain rfl := Option.some.inj ho
      have d134 : bx.tmps.getD 134 undef = .pointer (some ⟨w.heap.size, 9, none⟩) := hS.dep 25 134 (by kernel_rfl) (by kernel_rfl)
      have gd : bx.tmps.getD 130 undef = .bool true := hS.dep 21 130 (by kernel_rfl) (by kernel_rfl)
      have hl := ((r0.on' (pdrew hbel)).cell 9 _ rfl)
      refine .inl ⟨wanted_yes (j := 21) (t := 130) (c := true) (by kernel_rfl) (by kernel_rfl) gd, ends_value' (c := .int .u32 a0.frm) ?_⟩
      simp [Act.eval, d134, go_sem, hl]
    | 27, ho =>
      obtain rfl := Option.some.inj ho
      have d133 : bx.tmps.getD 133 undef = .int .u32 a0.frm := hS.dep 24 133 (by kernel_rfl) (by kernel_rfl)
      have d135 : bx.tmps.getD 135 undef = .int .u32 a0.frm := hS.dep 26 135 (by kernel_rfl) (by kernel_rfl)
      have gd : bx.tmps.getD 130 undef = .bool true := hS.dep 21 130 (by kernel_rfl) (by kernel_rfl)
      refine .inl ⟨wanted_yes (j := 21) (t := 130) (c := true) (by kernel_rfl) (by kernel_rfl) gd, ends_value' (c := .bool true) ?_⟩
      simp [Act.eval, d133, d135, go_sem]
    | 28, ho =>
      obtain rfl := Option.some.inj ho
      have d130 : bx.tmps.getD 130 undef = .bool true := hS.dep 21 130 (by kernel_rfl) (by kernel_rfl)
      have d136 : bx.tmps.getD 136 undef = .bool true := hS.dep 27 136 (by kernel_rfl) (by kernel_rfl)
      refine .inl ⟨rfl, ends_value' (c := .bool true) ?_⟩
      simp [Act.eval, d130, d136, go_sem]
    | 29, ho =>
      obtain rfl := Option.some.inj ho
      have d137 : bx.tmps.getD 137 undef = .bool true := hS.dep 28 137 (by kernel_rfl) (by kernel_rfl)
      refine .inl ⟨rfl, ends_value' (c := .bool true) ?_⟩
      simp [execOp, Act.eval, d137]
    | 30, ho =>
      obtain rfl := Option.some.inj ho
      have d15 : bx.tmps.getD 15 undef = .pointer (some ⟨v6.heap.size, 0, none⟩) := hS.base 15 (by kernel_rfl)
      have gd : bx.tmps.getD 138 undef = .bool true := hS.dep 29 138 (by kernel_rfl) (by kernel_rfl)
      refine .inl ⟨wanted_yes (j := 29) (t := 138) (c := true) (by kernel_rfl) (by kernel_rfl) gd, ends_value' (c := .pointer (some ⟨v6.heap.size, 3, none⟩)) ?_⟩
      simp [Act.eval, d15, go_sem]
    | 31, ho =>
      obtain rfl := Option.some.inj ho
      have d139 : bx.tmps.getD 139 undef = .pointer (some ⟨v6.heap.size, 3, none⟩) := hS.dep 30 139 (by kernel_rfl) (by kernel_rfl)
      have gd : bx.tmps.getD 138 undef = .bool true := hS.dep 29 138 (by kernel_rfl) (by kernel_rfl)
      refine .inl ⟨wanted_yes (j := 29) (t := 138) (c := true) (by kernel_rfl) (by kernel_rfl) gd, ends_value' (c := .pointer (some ⟨v6.heap.size, 6, none⟩)) ?_⟩
      simp [Act.eval, d139, go_sem]
    | 32, ho =>
      obtain rfl := Option.some.inj ho
      have d140 : bx.tmps.getD 140 undef = .pointer (some ⟨v6.heap.size, 6, none⟩) := hS.dep 31 140 (by kernel_rfl) (by kernel_rfl)
      have gd : bx.tmps.getD 138 undef = .bool true := hS.dep 29 138 (by kernel_rfl) (by kernel_rfl)
      have hl := ((rc.on' (pdrew hbel)).cell 6 _ rfl)
      refine .inl ⟨wanted_yes (j := 29) (t := 138) (c := true) (by kernel_rfl) (by kernel_rfl) gd, ends_value' (c := .int .i64 a3) ?_⟩
      simp [Act.eval, d140, go_sem, hl]
    | 33, ho =>
      obtain rfl := Option.some.inj ho
      have d3 : bx.tmps.getD 3 undef = .int .u16 a3 := hS.base 3 (by kernel_rfl)
      have gd : bx.tmps.getD 138 undef = .bool true := hS.dep 29 138 (by kernel_rfl) (by kernel_rfl)
      refine .inl ⟨wanted_yes (j := 29) (t := 138) (c := true) (by kernel_rfl) (by kernel_rfl) gd, ends_value' (c := .int .u16 a3) ?_⟩
      simp [execOp, Act.eval, d3]
    | 34, ho =>
      obtain rfl := Option.some.inj ho
      have d142 : bx.tmps.getD 142 undef = .int .u16 a3 := hS.dep 33 142 (by kernel_rfl) (by kernel_rfl)
      have gd : bx.tmps.getD 138 undef = .bool true := hS.dep 29 138 (by kernel_rfl) (by kernel_rfl)
      refine .inl ⟨wanted_yes (j := 29) (t := 138) (c := true) (by kernel_rfl) (by kernel_rfl) gd, ends_value' (c := .int .i64 a3) ?_⟩
      simp [Act.eval, d142, go_sem, k3]
    | 35, ho =>
      obtain rfl := Option.some.inj ho
      have d141 : bx.tmps.getD 141 undef = .int .i64 a3 := hS.dep 32 141 (by kernel_rfl) (by kernel_rfl)
      have d143 : bx.tmps.getD 143 undef = .int .i64 a3 := hS.dep 34 143 (by kernel_rfl) (by kernel_rfl)
      have gd : bx.tmps.getD 138 undef = .bool true := hS.dep 29 138 (by kernel_rfl) (by kernel_rfl)
      refine .inl ⟨wanted_yes (j := 29) (t := 138) (c := true) (by kernel_rfl) (by kernel_rfl) gd, ends_value' (c := .bool true) ?_⟩
      simp [Act.eval, d141, d143, go_sem]
    | 36, ho =>
      obtain rfl := Option.some.inj ho
      have d138 : bx.tmps.getD 138 undef = .bool true := hS.dep 29 138 (by kernel_rfl) (by kernel_rfl)
      have d144 : bx.tmps.getD 144 undef = .bool true := hS.dep 35 144 (by kernel_rfl) (by kernel_rfl)
      refine .inl ⟨rfl, ends_value' (c := .bool true) ?_⟩
      simp [Act.eval, d138, d144, go_sem]
    | 37, ho =>
      obtain rfl := Option.some.inj ho
      have d145 : bx.tmps.getD 145 undef = .bool true := hS.dep 36 145 (by kernel_rfl) (by kernel_rfl)
      refine .inl ⟨rfl, ends_value' (c := .bool true) ?_⟩
      simp [execOp, Act.eval, d145]
    | 38, ho =>
      obtain rfl := Option.some.inj ho
      have d15 : bx.tmps.getD 15 undef = .pointer (some ⟨v6.heap.size, 0, none⟩) := hS.base 15 (by kernel_rfl)
      have gd : bx.tmps.getD 146 undef = .bool true := hS.dep 37 146 (by kernel_rfl) (by kernel_rfl)
      refine .inl ⟨wanted_yes (j := 37) (t := 146) (c := true) (by kernel_rfl) (by kernel_rfl) gd, ends_value' (c := .pointer (some ⟨v6.heap.size, 3, none⟩)) ?_⟩
      simp [Act.eval, d15, go_sem]
    | 39, ho =>
      obtain rfl := Option.some.inj ho
      have d147 : bx.tmps.getD 147 undef = .pointer (some ⟨v6.heap.size, 3, none⟩) := hS.dep 38 147 (by kernel_rfl) (by kernel_rfl)
      have gd : bx.tmps.getD 146 undef = .bool true := hS.dep 37 146 (by kernel_rfl) (by kernel_rfl)
      refine .inl ⟨wanted_yes (j := 37) (t := 146) (c := true) (by kernel_rfl) (by kernel_rfl) gd, ends_value' (c := .pointer (some ⟨v6.heap.size, 7, none⟩)) ?_⟩
      simp [Act.eval, d147, go_sem]
    | 40, ho =>
      obtain rfl := Option.some.inj ho
      have d148 : bx.tmps.getD 148 undef = .pointer (some ⟨v6.heap.size, 7, none⟩) := hS.dep 39 148 (by kernel_rfl) (by kernel_rfl)
      have gd : bx.tmps.getD 146 undef = .bool true := hS.dep 37 146 (by kernel_rfl) (by kernel_rfl)
      have hl := ((rc.on' (pdrew hbel)).cell 7 _ rfl)
      refine .inl ⟨wanted_yes (j := 37) (t := 146) (c := true) (by kernel_rfl) (by kernel_rfl) gd, ends_value' (c := .int .i64 a4) ?_⟩
      simp [Act.eval, d148, go_sem, hl]
    | 41, ho =>
      obtain rfl := Option.some.inj ho
      have d4 : bx.tmps.getD 4 undef = .int .u16 a4 := hS.base 4 (by kernel_rfl)
      have gd : bx.tmps.getD 146 undef = .bool true := hS.dep 37 146 (by kernel_rfl) (by kernel_rfl)
      refine .inl ⟨wanted_yes (j := 37) (t := 146) (c := true) (by kernel_rfl) (by kernel_rfl) gd, ends_value' (c := .int .u16 a4) ?_⟩
      simp [execOp, Act.eval, d4]
    | 42, ho =>
      obtain rfl := Option.some.inj ho
      have d150 : bx.tmps.getD 150 undef = .int .u16 a4 := hS.dep 41 150 (by kernel_rfl) (by kernel_rfl)
      have gd : bx.tmps.getD 146 undef = .bool true := hS.dep 37 146 (by kernel_rfl) (by kernel_rfl)
      refine .inl ⟨wanted_yes (j := 37) (t := 146) (c := true) (by kernel_rfl) (by kernel_rfl) gd, ends_value' (c := .int .i64 a4) ?_⟩
      simp [Act.eval, d150, go_sem, k4]
    | 43, ho =>
      obtain rfl := Option.some.inj ho
      have d149 : bx.tmps.getD 149 undef = .int .i64 a4 := hS.dep 40 149 (by kernel_rfl) (by kernel_rfl)
      have d151 : bx.tmps.getD 151 undef = .int .i64 a4 := hS.dep 42 151 (by kernel_rfl) (by kernel_rfl)
      have gd : bx.tmps.getD 146 undef = .bool true := hS.dep 37 146 (by kernel_rfl) (by kernel_rfl)
      refine .inl ⟨wanted_yes (j := 37) (t := 146) (c := true) (by kernel_rfl) (by kernel_rfl) gd, ends_value' (c := .bool true) ?_⟩
      simp [Act.eval, d149, d151, go_sem]
    | 44, ho =>
      obtain rfl := Option.some.inj ho
      have d146 : bx.tmps.getD 146 undef = .bool true := hS.dep 37 146 (by kernel_rfl) (by kernel_rfl)
      have d152 : bx.tmps.getD 152 undef = .bool true := hS.dep 43 152 (by kernel_rfl) (by kernel_rfl)
      refine .inl ⟨rfl, ends_value' (c := .bool true) ?_⟩
      simp [Act.eval, d146, d152, go_sem]
    | 45, ho =>
      obtain rfl := Option.some.inj ho
      have d153 : bx.tmps.getD 153 undef = .bool true := hS.dep 44 153 (by kernel_rfl) (by kernel_rfl)
      refine .inl ⟨rfl, ends_value' (c := .bool true) ?_⟩
      simp [execOp, Act.eval, d153]
    | 46, ho =>
      obtain rfl := Option.some.inj ho
      have d19 : bx.tmps.getD 19 undef = .pointer (some ⟨v9.heap.size, 0, none⟩) := hS.base 19 (by kernel_rfl)
      have gd : bx.tmps.getD 154 undef = .bool true := hS.dep 45 154 (by kernel_rfl) (by kernel_rfl)
      refine .inl ⟨wanted_yes (j := 45) (t := 154) (c := true) (by kernel_rfl) (by kernel_rfl) gd, ends_value' (c := .pointer (some ⟨v9.heap.size, 10, none⟩)) ?_⟩
      simp [Act.eval, d19, go_sem]
    | 47, ho =>
      obtain rfl := Option.some.inj ho
      have d155 : bx.tmps.getD 155 undef = .pointer (some ⟨v9.heap.size, 10, none⟩) := hS.dep 46 155 (by kernel_rfl) (by kernel_rfl)
      have gd : bx.tmps.getD 154 undef = .bool true := hS.dep 45 154 (by kernel_rfl) (by kernel_rfl)
      have hl := ((rx.on' (pdrew hbel)).cell 10 _ rfl)
      refine .inl ⟨wanted_yes (j := 45) (t := 154) (c := true) (by kernel_rfl) (by kernel_rfl) gd, ends_value' (c := .int .u32 a0.frm) ?_⟩
      simp [Act.eval, d155, go_sem, hl]
    | 48, ho =>
      obtain rfl := Option.some.inj ho
      have d5 : bx.tmps.getD 5 undef = .pointer (some ⟨w.heap.size, 0, none⟩) := hS.base 5 (by kernel_rfl)
      have gd : bx.tmps.getD 154 undef = .bool true := hS.dep 45 154 (by kernel_rfl) (by kernel_rfl)
      refine .inl ⟨wanted_yes (j := 45) (t := 154) (c := true) (by kernel_rfl) (by kernel_rfl) gd, ends_value' (c := .pointer (some ⟨w.heap.size, 9, none⟩)) ?_⟩
      simp [Act.eval, d5, go_sem]
    | 49, ho =>
      obtain rfl := Option.some.inj ho
      have d157 : bx.tmps.getD 157 undef = .pointer (some ⟨w.heap.size, 9, none⟩) := hS.dep 48 157 (by kernel_rfl) (by kernel_rfl)
      have gd : bx.tmps.getD 154 undef = .bool true := hS.dep 45 154 (by kernel_rfl) (by kernel_rfl)
      have hl := ((r0.on' (pdrew hbel)).cell 9 _ rfl)
      refine .inl ⟨wanted_yes (j := 45) (t := 154) (c := true) (by kernel_rfl) (by kernel_rfl) gd, ends_value' (c := .int .u32 a0.frm) ?_⟩
      simp [Act.eval, d157, go_sem, hl]
    | 50, ho =>
      obtain rfl := Option.some.inj ho
      have d156 : bx.tmps.getD 156 undef = .int .u32 a0.frm := hS.dep 47 156 (by kernel_rfl) (by kernel_rfl)
      have d158 : bx.tmps.getD 158 undef = .int .u32 a0.frm := hS.dep 49 158 (by kernel_rfl) (by kernel_rfl)
      have gd : bx.tmps.getD 154 undef = .bool true := hS.dep 45 154 (by kernel_rfl) (by kernel_rfl)
      refine .inl ⟨wanted_yes (j := 45) (t := 154) (c := true) (by kernel_rfl) (by kernel_rfl) gd, ends_value' (c := .bool true) ?_⟩
      simp [Act.eval, d156, d158, go_sem]
    | 51, ho =>
      obtain rfl := Option.some.inj ho
      have d154 : bx.tmps.getD 154 undef = .bool true := hS.dep 45 154 (by kernel_rfl) (by kernel_rfl)
      have d159 : bx.tmps.getD 159 undef = .bool true := hS.dep 50 159 (by kernel_rfl) (by kernel_rfl)
      refine .inl ⟨rfl, ends_value' (c := .bool true) ?_⟩
      simp [Act.eval, d154, d159, go_sem]
    | 52, ho =>
      obtain rfl := Option.some.inj ho
      have d160 : bx.tmps.getD 160 undef = .bool true := hS.dep 51 160 (by kernel_rfl) (by kernel_rfl)
      refine .inl ⟨rfl, ends_value' (c := .bool true) ?_⟩
      simp [execOp, Act.eval, d160]
    | 53, ho =>
      obtain rfl := Option.some.inj ho
      have d19 : bx.tmps.getD 19 undef = .pointer (some ⟨v9.heap.size, 0, none⟩) := hS.base 19 (by kernel_rfl)
      have gd : bx.tmps.getD 161 undef = .bool true := hS.dep 52 161 (by kernel_rfl) (by kernel_rfl)
      refine .inl ⟨wanted_yes (j := 52) (t := 161) (c := true) (by kernel_rfl) (by kernel_rfl) gd, ends_value' (c := .pointer (some ⟨v9.heap.size, 11, none⟩)) ?_⟩
      simp [Act.eval, d19, go_sem]
    | 54, ho =>
      obtain rfl := Option.some.inj ho
      have d162 : bx.tmps.getD 162 undef = .pointer (some ⟨v9.heap.size, 11, none⟩) := hS.dep 53 162 (by kernel_rfl) (by kernel_rfl)
      have gd : bx.tmps.getD 161 undef = .bool true := hS.dep 52 161 (by kernel_rfl) (by kernel_rfl)
      have hl := ((rx.on' (pdrew hbel)).cell 11 _ rfl)
      refine .inl ⟨wanted_yes (j := 52) (t := 161) (c := true) (by kernel_rfl) (by kernel_rfl) gd, ends_value' (c := .int .u32 a0.dest) ?_⟩
      simp [Act.eval, d162, go_sem, hl]
    | 55, ho =>
      obtain rfl := Option.some.inj ho
      have d5 : bx.tmps.getD 5 undef = .pointer (some ⟨w.heap.size, 0, none⟩) := hS.base 5 (by kernel_rfl)
      have gd : bx.tmps.getD 161 undef = .bool true := hS.dep 52 161 (by kernel_rfl) (by kernel_rfl)
      refine .inl ⟨wanted_yes (j := 52) (t := 161) (c := true) (by kernel_rfl) (by kernel_rfl) gd, ends_value' (c := .pointer (some ⟨w.heap.size, 10, none⟩)) ?_⟩
      simp [Act.eval, d5, go_sem]
    | 56, ho =>
      obtain rfl := Option.some.inj ho
      have d164 : bx.tmps.getD 164 undef = .pointer (some ⟨w.heap.size, 10, none⟩) := hS.dep 55 164 (by kernel_rfl) (by kernel_rfl)
      have gd : bx.tmps.getD 161 undef = .bool true := hS.dep 52 161 (by kernel_rfl) (by kernel_rfl)
      have hl := ((r0.on' (pdrew hbel)).cell 10 _ rfl)
      refine .inl ⟨wanted_yes (j := 52) (t := 161) (c := true) (by kernel_rfl) (by kernel_rfl) gd, ends_value' (c := .int .u32 a0.dest) ?_⟩
      simp [Act.eval, d164, go_sem, hl]
    | 57, ho =>
      obtain rfl := Option.some.inj ho
      have d163 : bx.tmps.getD 163 undef = .int .u32 a0.dest := hS.dep 54 163 (by kernel_rfl) (by kernel_rfl)
      have d165 : bx.tmps.getD 165 undef = .int .u32 a0.dest := hS.dep 56 165 (by kernel_rfl) (by kernel_rfl)
      have gd : bx.tmps.getD 161 undef = .bool true := hS.dep 52 161 (by kernel_rfl) (by kernel_rfl)
      refine .inl ⟨wanted_yes (j := 52) (t := 161) (c := true) (by kernel_rfl) (by kernel_rfl) gd, ends_value' (c := .bool true) ?_⟩
      simp [Act.eval, d163, d165, go_sem]
    | 58, ho =>
      obtain rfl := Option.some.inj ho
      have d161 : bx.tmps.getD 161 undef = .bool true := hS.dep 52 161 (by kernel_rfl) (by kernel_rfl)
      have d166 : bx.tmps.getD 166 undef = .bool true := hS.dep 57 166 (by kernel_rfl) (by kernel_rfl)
      refine .inl ⟨rfl, ends_value' (c := .bool true) ?_⟩
      simp [Act.eval, d161, d166, go_sem]
    | 59, ho =>
      obtain rfl := Option.some.inj ho
      have d167 : bx.tmps.getD 167 undef = .bool true := hS.dep 58 167 (by kernel_rfl) (by kernel_rfl)
      refine .inl ⟨rfl, ends_value' (c := .bool true) ?_⟩
      simp [execOp, Act.eval, d167]
    | 60, ho =>
      obtain rfl := Option.some.inj ho
      have d19 : bx.tmps.getD 19 undef = .pointer (some ⟨v9.heap.size, 0, none⟩) := hS.base 19 (by kernel_rfl)
      have gd : bx.tmps.getD 168 undef = .bool true := hS.dep 59 168 (by kernel_rfl) (by kernel_rfl)
      refine .inl ⟨wanted_yes (j := 59) (t := 168) (c := true) (by kernel_rfl) (by kernel_rfl) gd, ends_value' (c := .pointer (some ⟨v9.heap.size, 3, none⟩)) ?_⟩
      simp [Act.eval, d19, go_sem]
    | 61, ho =>
      obtain rfl := Option.some.inj ho
      have d169 : bx.tmps.getD 169 undef = .pointer (some ⟨v9.heap.size, 3, none⟩) := hS.dep 60 169 (by kernel_rfl) (by kernel_rfl)
      have gd : bx.tmps.getD 168 undef = .bool true := hS.dep 59 168 (by kernel_rfl) (by kernel_rfl)
      refine .inl ⟨wanted_yes (j := 59) (t := 168) (c := true) (by kernel_rfl) (by kernel_rfl) gd, ends_value' (c := .pointer (some ⟨v9.heap.size, 4, none⟩)) ?_⟩
      simp [Act.eval, d169, go_sem]
    | 62, ho =>
      obtain rfl := Option.some.inj ho
      have d170 : bx.tmps.getD 170 undef = .pointer (some ⟨v9.heap.size, 4, none⟩) := hS.dep 61 170 (by kernel_rfl) (by kernel_rfl)
      have gd : bx.tmps.getD 168 undef = .bool true := hS.dep 59 168 (by kernel_rfl) (by kernel_rfl)
      have hl := ((rx.on' (pdrew hbel)).cell 4 _ rfl)
      refine .inl ⟨wanted_yes (j := 59) (t := 168) (c := true) (by kernel_rfl) (by kernel_rfl) gd, ends_value' (c := .int .u32 a0.src) ?_⟩
      simp [Act.eval, d170, go_sem, hl]
    | 63, ho =>
      obtain rfl := Option.some.inj ho
      have d5 : bx.tmps.getD 5 undef = .pointer (some ⟨w.heap.size, 0, none⟩) := hS.base 5 (by kernel_rfl)
      have gd : bx.tmps.getD 168 undef = .bool true := hS.dep 59 168 (by kernel_rfl) (by kernel_rfl)
      refine .inl ⟨wanted_yes (j := 59) (t := 168) (c := true) (by kernel_rfl) (by kernel_rfl) gd, ends_value' (c := .pointer (some ⟨w.heap.size, 1, none⟩)) ?_⟩
      simp [Act.eval, d5, go_sem]
    | 64, ho =>
      obtain rfl := Option.some.inj ho
      have d172 : bx.tmps.getD 172 undef = .pointer (some ⟨w.heap.size, 1, none⟩) := hS.dep 63 172 (by kernel_rfl) (by kernel_rfl)
      have gd : bx.tmps.getD 168 undef = .bool true := hS.dep 59 168 (by kernel_rfl) (by kernel_rfl)
      have hl := ((r0.on' (pdrew hbel)).cell 1 _ rfl)
      refine .inl ⟨wanted_yes (j := 59) (t := 168) (c := true) (by kernel_rfl) (by kernel_rfl) gd, ends_value' (c := .int .u32 a0.src) ?_⟩
      simp [Act.eval, d172, go_sem, hl]
    | 65, ho =>
      obtain rfl := Option.some.inj ho
      have d171 : bx.tmps.getD 171 undef = .int .u32 a0.src := hS.dep 62 171 (by kernel_rfl) (by kernel_rfl)
      have d173 : bx.tmps.getD 173 undef = .int .u32 a0.src := hS.dep 64 173 (by kernel_rfl) (by kernel_rfl)
      have gd : bx.tmps.getD 168 undef = .bool true := hS.dep 59 168 (by kernel_rfl) (by kernel_rfl)
      refine .inl ⟨wanted_yes (j := 59) (t := 168) (c := true) (by kernel_rfl) (by kernel_rfl) gd, ends_value' (c := .bool true) ?_⟩
      simp [Act.eval, d171, d173, go_sem]
    | 66, ho =>
      obtain rfl := Option.some.inj ho
      have d168 : bx.tmps.getD 168 undef = .bool true := hS.dep 59 168 (by kernel_rfl) (by kernel_rfl)
      have d174 : bx.tmps.getD 174 undef = .bool true := hS.dep 65 174 (by kernel_rfl) (by kernel_rfl)
      refine .inl ⟨rfl, ends_value' (c := .bool true) ?_⟩
      simp [Act.eval, d168, d174, go_sem]
    | 67, ho =>
      obtain rfl := Option.some.inj ho
      have d175 : bx.tmps.getD 175 undef = .bool true := hS.dep 66 175 (by kernel_rfl) (by kernel_rfl)
      refine .inl ⟨rfl, ends_value' (c := .bool true) ?_⟩
      simp [execOp, Act.eval, d175]
    | 68, ho =>
      obtain rfl := Option.some.inj ho
      have d19 : bx.tmps.getD 19 undef = .pointer (some ⟨v9.heap.size, 0, none⟩) := hS.base 19 (by kernel_rfl)
      have gd : bx.tmps.getD 176 undef = .bool true := hS.dep 67 176 (by kernel_rfl) (by kernel_rfl)
      refine .inl ⟨wanted_yes (j := 67) (t := 176) (c := true) (by kernel_rfl) (by kernel_rfl) gd, ends_value' (c := .pointer (some ⟨v9.heap.size, 3, none⟩)) ?_⟩
      simp [Act.eval, d19, go_sem]
    | 69, ho =>
      obtain rfl := Option.some.inj ho
      have d177 : bx.tmps.getD 177 undef = .pointer (some ⟨v9.heap.size, 3, none⟩) := hS.dep 68 177 (by kernel_rfl) (by kernel_rfl)
      have gd : bx.tmps.getD 176 undef = .bool true := hS.dep 67 176 (by kernel_rfl) (by kernel_rfl)
      refine .inl ⟨wanted_yes (j := 67) (t := 176) (c := true) (by kernel_rfl) (by kernel_rfl) gd, ends_value' (c := .pointer (some ⟨v9.heap.size, 5, none⟩)) ?_⟩
      simp [Act.eval, d177, go_sem]
    | 70, ho =>
      obtain rfl := Option.some.inj ho
      have d178 : bx.tmps.getD 178 undef = .pointer (some ⟨v9.heap.size, 5, none⟩) := hS.dep 69 178 (by kernel_rfl) (by kernel_rfl)
      have gd : bx.tmps.getD 176 undef = .bool true := hS.dep 67 176 (by kernel_rfl) (by kernel_rfl)
      have hl := ((rx.on' (pdrew hbel)).cell 5 _ rfl)
      refine .inl ⟨wanted_yes (j := 67) (t := 176) (c := true) (by kernel_rfl) (by kernel_rfl) gd, ends_value' (c := .int .u32 a0.dst) ?_⟩
      simp [Act.eval, d178, go_sem, hl]
    | 71, ho =>
      obtain rfl := Option.some.inj ho
      have d5 : bx.tmps.getD 5 undef = .pointer (some ⟨w.heap.size, 0, none⟩) := hS.base 5 (by kernel_rfl)
      have gd : bx.tmps.getD 176 undef = .bool true := hS.dep 67 176 (by kernel_rfl) (by kernel_rfl)
      refine .inl ⟨wanted_yes (j := 67) (t := 176) (c := true) (by kernel_rfl) (by kernel_rfl) gd, ends_value' (c := .pointer (some ⟨w.heap.size, 2, none⟩)) ?_⟩
      simp [Act.eval, d5, go_sem]
    | 72, ho =>
      obtain rfl := Option.some.inj ho
      have d180 : bx.tmps.getD 180 undef = .pointer (some ⟨w.heap.size, 2, none⟩) := hS.dep 71 180 (by kernel_rfl) (by kernel_rfl)
      have gd : bx.tmps.getD 176 undef = .bool true := hS.dep 67 176 (by kernel_rfl) (by kernel_rfl)
      have hl := ((r0.on' (pdrew hbel)).cell 2 _ rfl)
      refine .inl ⟨wanted_yes (j := 67) (t := 176) (c := true) (by kernel_rfl) (by kernel_rfl) gd, ends_value' (c := .int .u32 a0.dst) ?_⟩
      simp [Act.eval, d180, go_sem, hl]
    | 73, ho =>
      obtain rfl := Option.some.inj ho
      have d179 : bx.tmps.getD 179 undef = .int .u32 a0.dst := hS.dep 70 179 (by kernel_rfl) (by kernel_rfl)
      have d181 : bx.tmps.getD 181 undef = .int .u32 a0.dst := hS.dep 72 181 (by kernel_rfl) (by kernel_rfl)
      have gd : bx.tmps.getD 176 undef = .bool true := hS.dep 67 176 (by kernel_rfl) (by kernel_rfl)
      refine .inl ⟨wanted_yes (j := 67) (t := 176) (c := true) (by kernel_rfl) (by kernel_rfl) gd, ends_value' (c := .bool true) ?_⟩
      simp [Act.eval, d179, d181, go_sem]
    | 74, ho =>
      obtain rfl := Option.some.inj ho
      have d176 : bx.tmps.getD 176 undef = .bool true := hS.dep 67 176 (by kernel_rfl) (by kernel_rfl)
      have d182 : bx.tmps.getD 182 undef = .bool true := hS.dep 73 182 (by kernel_rfl) (by kernel_rfl)
      refine .inl ⟨rfl, ends_value' (c := .bool true) ?_⟩
      simp [Act.eval, d176, d182, go_sem]
    | 75, ho =>
      obtain rfl := Option.some.inj ho
      have d183 : bx.tmps.getD 183 undef = .bool true := hS.dep 74 183 (by kernel_rfl) (by kernel_rfl)
      refine .inl ⟨rfl, ends_value' (c := .bool true) ?_⟩
      simp [execOp, Act.eval, d183]
    | 76, ho =>
      obtain rfl := Option.some.inj ho
      have d19 : bx.tmps.getD 19 undef = .pointer (some ⟨v9.heap.size, 0, none⟩) := hS.base 19 (by kernel_rfl)
      have gd : bx.tmps.getD 184 undef = .bool true := hS.dep 75 184 (by kernel_rfl) (by kernel_rfl)
      refine .inl ⟨wanted_yes (j := 75) (t := 184) (c := true) (by kernel_rfl) (by kernel_rfl) gd, ends_value' (c := .pointer (some ⟨v9.heap.size, 3, none⟩)) ?_⟩
      simp [Act.eval, d19, go_sem]
    | 77, ho =>
      obtain rfl := Option.some.inj ho
      have d185 : bx.tmps.getD 185 undef = .pointer (some ⟨v9.heap.size, 3, none⟩) := hS.dep 76 185 (by kernel_rfl) (by kernel_rfl)
      have gd : bx.tmps.getD 184 undef = .bool true := hS.dep 75 184 (by kernel_rfl) (by kernel_rfl)
      refine .inl ⟨wanted_yes (j := 75) (t := 184) (c := true) (by kernel_rfl) (by kernel_rfl) gd, ends_value' (c := .pointer (some ⟨v9.heap.size, 6, none⟩)) ?_⟩
      simp [Act.eval, d185, go_sem]
    | 78, ho =>
      obtain rfl := Option.some.inj ho
      have d186 : bx.tmps.getD 186 undef = .pointer (some ⟨v9.heap.size, 6, none⟩) := hS.dep 77 186 (by kernel_rfl) (by kernel_rfl)
      have gd : bx.tmps.getD 184 undef = .bool true := hS.dep 75 184 (by kernel_rfl) (by kernel_rfl)
      have hl := ((rx.on' (pdrew hbel)).cell 6 _ rfl)
      refine .inl ⟨wanted_yes (j := 75) (t := 184) (c := true) (by kernel_rfl) (by kernel_rfl) gd, ends_value' (c := .int .i64 a0.sport) ?_⟩
      simp [Act.eval, d186, go_sem, hl]
    | 79, ho =>
      obtain rfl := Option.some.inj ho
      have d5 : bx.tmps.getD 5 undef = .pointer (some ⟨w.heap.size, 0, none⟩) := hS.base 5 (by kernel_rfl)
      have gd : bx.tmps.getD 184 undef = .bool true := hS.dep 75 184 (by kernel_rfl) (by kernel_rfl)
      refine .inl ⟨wanted_yes (j := 75) (t := 184) (c := true) (by kernel_rfl) (by kernel_rfl) gd, ends_value' (c := .pointer (some ⟨w.heap.size, 3, none⟩)) ?_⟩
      simp [Act.eval, d5, go_sem]
    | 80, ho =>
      obtain rfl := Option.some.inj ho
      have d188 : bx.tmps.getD 188 undef = .pointer (some ⟨w.heap.size, 3, none⟩) := hS.dep 79 188 (by kernel_rfl) (by kernel_rfl)
      have gd : bx.tmps.getD 184 undef = .bool true := hS.dep 75 184 (by kernel_rfl) (by kernel_rfl)
      have hl := ((r0.on' (pdrew hbel)).cell 3 _ rfl)
      refine .inl ⟨wanted_yes (j := 75) (t := 184) (c := true) (by kernel_rfl) (by kernel_rfl) gd, ends_value' (c := .int .u16 a0.sport) ?_⟩
      simp [Act.eval, d188, go_sem, hl]
    | 81, ho =>
      obtain rfl := Option.some.inj ho
      have d189 : bx.tmps.getD 189 undef = .int .u16 a0.sport := hS.dep 80 189 (by kernel_rfl) (by kernel_rfl)
      have gd : bx.tmps.getD 184 undef = .bool true := hS.dep 75 184 (by kernel_rfl) (by kernel_rfl)
      refine .inl ⟨wanted_yes (j := 75) (t := 184) (c := true) (by kernel_rfl) (by kernel_rfl) gd, ends_value' (c := .int .i64 a0.sport) ?_⟩
      simp [Act.eval, d189, go_sem, k5]
    | 82, ho =>
      obtain rfl := Option.some.inj ho
      have d187 : bx.tmps.getD 187 undef = .int .i64 a0.sport := hS.dep 78 187 (by kernel_rfl) (by kernel_rfl)
      have d190 : bx.tmps.getD 190 undef = .int .i64 a0.sport := hS.dep 81 190 (by kernel_rfl) (by kernel_rfl)
      have gd : bx.tmps.getD 184 undef = .bool true := hS.dep 75 184 (by kernel_rfl) (by kernel_rfl)
      refine .inl ⟨wanted_yes (j := 75) (t := 184) (c := true) (by kernel_rfl) (by kernel_rfl) gd, ends_value' (c := .bool true) ?_⟩
      simp [Act.eval, d187, d190, go_sem]
    | 83, ho =>
      obtain rfl := Option.some.inj ho
      have d184 : bx.tmps.getD 184 undef = .bool true := hS.dep 75 184 (by kernel_rfl) (by kernel_rfl)
      have d191 : bx.tmps.getD 191 undef = .bool true := hS.dep 82 191 (by kernel_rfl) (by kernel_rfl)
      refine .inl ⟨rfl, ends_value' (c := .bool true) ?_⟩
      simp [Act.eval, d184, d191, go_sem]
    | 84, ho =>
      obtain rfl := Option.some.inj ho
      have d192 : bx.tmps.getD 192 undef = .bool true := hS.dep 83 192 (by kernel_rfl) (by kernel_rfl)
      refine .inl ⟨rfl, ends_value' (c := .bool true) ?_⟩
      simp [execOp, Act.eval, d192]
    | 85, ho =>
      obtain rfl := Option.some.inj ho
      have d19 : bx.tmps.getD 19 undef = .pointer (some ⟨v9.heap.size, 0, none⟩) := hS.base 19 (by kernel_rfl)
      have gd : bx.tmps.getD 193 undef = .bool true := hS.dep 84 193 (by kernel_rfl) (by kernel_rfl)
      refine .inl ⟨wanted_yes (j := 84) (t := 193) (c := true) (by kernel_rfl) (by kernel_rfl) gd, ends_value' (c := .pointer (some ⟨v9.heap.size, 3, none⟩)) ?_⟩
      simp [Act.eval, d19, go_sem]
    | 86, ho =>
      obtain rfl := Option.some.inj ho
      have d194 : bx.tmps.getD 194 undef = .pointer (some ⟨v9.heap.size, 3, none⟩) := hS.dep 85 194 (by kernel_rfl) (by kernel_rfl)
      have gd : bx.tmps.getD 193 undef = .bool true := hS.dep 84 193 (by kernel_rfl) (by kernel_rfl)
      refine .inl ⟨wanted_yes (j := 84) (t := 193) (c := true) (by kernel_rfl) (by kernel_rfl) gd, ends_value' (c := .pointer (some ⟨v9.heap.size, 7, none⟩)) ?_⟩
      simp [Act.eval, d194, go_sem]
    | 87, ho =>
      obtain rfl := Option.some.inj ho
      have d195 : bx.tmps.getD 195 undef = .pointer (some ⟨v9.heap.size, 7, none⟩) := hS.dep 86 195 (by kernel_rfl) (by kernel_rfl)
      have gd : bx.tmps.getD 193 undef = .bool true := hS.dep 84 193 (by kernel_rfl) (by kernel_rfl)
      have hl := ((rx.on' (pdrew hbel)).cell 7 _ rfl)
      refine .inl ⟨wanted_yes (j := 84) (t := 193) (c := true) (by kernel_rfl) (by kernel_rfl) gd, ends_value' (c := .int .i64 a0.dport) ?_⟩
      simp [Act.eval, d195, go_sem, hl]
    | 88, ho =>
      obtain rfl := Option.some.inj ho
      have d5 : bx.tmps.getD 5 undef = .pointer (some ⟨w.heap.size, 0, none⟩) := hS.base 5 (by kernel_rfl)
      have gd : bx.tmps.getD 193 undef = .bool true := hS.dep 84 193 (by kernel_rfl) (by kernel_rfl)
      refine .inl ⟨wanted_yes (j := 84) (t := 193) (c := true) (by kernel_rfl) (by kernel_rfl) gd, ends_value' (c := .pointer (some ⟨w.heap.size, 4, none⟩)) ?_⟩
      simp [Act.eval, d5, go_sem]
    | 89, ho =>
      obtain rfl := Option.some.inj ho
      have d197 : bx.tmps.getD 197 undef = .pointer (some ⟨w.heap.size, 4, none⟩) := hS.dep 88 197 (by kernel_rfl) (by kernel_rfl)
      have gd : bx.tmps.getD 193 undef = .bool true := hS.dep 84 193 (by kernel_rfl) (by kernel_rfl)
      have hl := ((r0.on' (pdrew hbel)).cell 4 _ rfl)
      refine .inl ⟨wanted_yes (j := 84) (t := 193) (c := true) (by kernel_rfl) (by kernel_rfl) gd, ends_value' (c := .int .u16 a0.dport) ?_⟩
      simp [Act.eval, d197, go_sem, hl]
    | 90, ho =>
      obtain rfl := Option.some.inj ho
      have d198 : bx.tmps.getD 198 undef = .int .u16 a0.dport := hS.dep 89 198 (by kernel_rfl) (by kernel_rfl)
      have gd : bx.tmps.getD 193 undef = .bool true := hS.dep 84 193 (by kernel_rfl) (by kernel_rfl)
      refine .inl ⟨wanted_yes (j := 84) (t := 193) (c := true) (by kernel_rfl) (by kernel_rfl) gd, ends_value' (c := .int .i64 a0.dport) ?_⟩
      simp [Act.eval, d198, go_sem, k6]
    | 91, ho =>
      obtain rfl := Option.some.inj ho
      have d196 : bx.tmps.getD 196 undef = .int .i64 a0.dport := hS.dep 87 196 (by kernel_rfl) (by kernel_rfl)
      have d199 : bx.tmps.getD 199 undef = .int .i64 a0.dport := hS.dep 90 199 (by kernel_rfl) (by kernel_rfl)
      have gd : bx.tmps.getD 193 undef = .bool true := hS.dep 84 193 (by kernel_rfl) (by kernel_rfl)
      refine .inl ⟨wanted_yes (j := 84) (t := 193) (c := true) (by kernel_rfl) (by kernel_rfl) gd, ends_value' (c := .bool true) ?_⟩
      simp [Act.eval, d196, d199, go_sem]
    | 92, ho =>
      obtain rfl := Option.some.inj ho
      have d193 : bx.tmps.getD 193 undef = .bool true := hS.dep 84 193 (by kernel_rfl) (by kernel_rfl)
      have d200 : bx.tmps.getD 200 undef = .bool true := hS.dep 91 200 (by kernel_rfl) (by kernel_rfl)
      refine .inl ⟨rfl, ends_value' (c := .bool true) ?_⟩
      simp [Act.eval, d193, d200, go_sem]
    | 93, ho =>
      obtain rfl := Option.some.inj ho
      have d201 : bx.tmps.getD 201 undef = .bool true := hS.dep 92 201 (by kernel_rfl) (by kernel_rfl)
      refine .inl ⟨rfl, ends_value' (c := .bool true) ?_⟩
      simp [execOp, Act.eval, d201]
    | 94, ho =>
      obtain rfl := Option.some.inj ho
      have d17 : bx.tmps.getD 17 undef = .string X := hS.base 17 (by kernel_rfl)
      have gd : bx.tmps.getD 202 undef = .bool true := hS.dep 93 202 (by kernel_rfl) (by kernel_rfl)
      refine .inl ⟨wanted_yes (j := 93) (t := 202) (c := true) (by kernel_rfl) (by kernel_rfl) gd, ends_value' (c := .string X) ?_⟩
      simp [execOp, Act.eval, d17]
    | 95, ho =>
      obtain rfl := Option.some.inj ho
      have d203 : bx.tmps.getD 203 undef = .string X := hS.dep 94 203 (by kernel_rfl) (by kernel_rfl)
      have gd : bx.tmps.getD 202 undef = .bool true := hS.dep 93 202 (by kernel_rfl) (by kernel_rfl)
      refine .inl ⟨wanted_yes (j := 93) (t := 202) (c := true) (by kernel_rfl) (by kernel_rfl) gd, ends_value' (c := .string E1) ?_⟩
      simp [Act.eval, d203, go_sem, c12, z2, y38]
    | 96, ho =>
      obtain rfl := Option.some.inj ho
      have d12 : bx.tmps.getD 12 undef = .string F := hS.base 12 (by kernel_rfl)
      have gd : bx.tmps.getD 202 undef = .bool true := hS.dep 93 202 (by kernel_rfl) (by kernel_rfl)
      refine .inl ⟨wanted_yes (j := 93) (t := 202) (c := true) (by kernel_rfl) (by kernel_rfl) gd, ends_value' (c := .string F) ?_⟩
      simp [execOp, Act.eval, d12]
    | 97, ho =>
      obtain rfl := Option.some.inj ho
      have d205 : bx.tmps.getD 205 undef = .string F := hS.dep 96 205 (by kernel_rfl) (by kernel_rfl)
      have gd : bx.tmps.getD 202 undef = .bool true := hS.dep 93 202 (by kernel_rfl) (by kernel_rfl)
      refine .inl ⟨wanted_yes (j := 93) (t := 202) (c := true) (by kernel_rfl) (by kernel_rfl) gd, ends_value' (c := .string E1) ?_⟩
      simp [Act.eval, d205, go_sem, hE1, hn, y38]
    | 98, ho =>
      obtain rfl := Option.some.inj ho
      have d204 : bx.tmps.getD 204 undef = .string E1 := hS.dep 95 204 (by kernel_rfl) (by kernel_rfl)
      have d206 : bx.tmps.getD 206 undef = .string E1 := hS.dep 97 206 (by kernel_rfl) (by kernel_rfl)
      have gd : bx.tmps.getD 202 undef = .bool true := hS.dep 93 202 (by kernel_rfl) (by kernel_rfl)
      refine .inl ⟨wanted_yes (j := 93) (t := 202) (c := true) (by kernel_rfl) (by kernel_rfl) gd, ends_value' (c := .bool true) ?_⟩
      simp [Act.eval, d204, d206, go_sem]
    | 99, ho =>
      obtain rfl := Option.some.inj ho
      have d202 : bx.tmps.getD 202 undef = .bool true := hS.dep 93 202 (by kernel_rfl) (by kernel_rfl)
      have d207 : bx.tmps.getD 207 undef = .bool true := hS.dep 98 207 (by kernel_rfl) (by kernel_rfl)
      refine .inl ⟨rfl, ends_value' (c := .bool true) ?_⟩
      simp [Act.eval, d202, d207, go_sem]
    | 100, ho =>
      obtain rfl := Option.some.inj ho
      have d208 : bx.tmps.getD 208 undef = .bool true := hS.dep 99 208 (by kernel_rfl) (by kernel_rfl)
      refine .inl ⟨rfl, ends_value' (c := .bool true) ?_⟩
      simp [execOp, Act.eval, d208]
    | 101, ho =>
      obtain rfl := Option.some.inj ho
      have d17 : bx.tmps.getD 17 undef = .string X := hS.base 17 (by kernel_rfl)
      have gd : bx.tmps.getD 209 undef = .bool true := hS.dep 100 209 (by kernel_rfl) (by kernel_rfl)
      refine .inl ⟨wanted_yes (j := 100) (t := 209) (c := true) (by kernel_rfl) (by kernel_rfl) gd, ends_value' (c := .string X) ?_⟩
      simp [execOp, Act.eval, d17]
    | 102, ho =>
      obtain rfl := Option.some.inj ho
      have d210 : bx.tmps.getD 210 undef = .string X := hS.dep 101 210 (by kernel_rfl) (by kernel_rfl)
      have gd : bx.tmps.getD 209 undef = .bool true := hS.dep 100 209 (by kernel_rfl) (by kernel_rfl)
      refine .inl ⟨wanted_yes (j := 100) (t := 209) (c := true) (by kernel_rfl) (by kernel_rfl) gd, ends_value' (c := .string E2) ?_⟩
      simp [Act.eval, d210, go_sem, c13, z2, z3]
    | 103, ho =>
      obtain rfl := Option.some.inj ho
      have d12 : bx.tmps.getD 12 undef = .string F := hS.base 12 (by kernel_rfl)
      have gd : bx.tmps.getD 209 undef = .bool true := hS.dep 100 209 (by kernel_rfl) (by kernel_rfl)
      refine .inl ⟨wanted_yes (j := 100) (t := 209) (c := true) (by kernel_rfl) (by kernel_rfl) gd, ends_value' (c := .string F) ?_⟩
      simp [execOp, Act.eval, d12]
    | 104, ho =>
      obtain rfl := Option.some.inj ho
      have d212 : bx.tmps.getD 212 undef = .string F := hS.dep 103 212 (by kernel_rfl) (by kernel_rfl)
      have gd : bx.tmps.getD 209 undef = .bool true := hS.dep 100 209 (by kernel_rfl) (by kernel_rfl)
      refine .inl ⟨wanted_yes (j := 100) (t := 209) (c := true) (by kernel_rfl) (by kernel_rfl) gd, ends_value' (c := .string E2) ?_⟩
      simp [Act.eval, d212, go_sem, hE2, hn, z3]
    | 105, ho =>
      obtain rfl := Option.some.inj ho
      have d211 : bx.tmps.getD 211 undef = .string E2 := hS.dep 102 211 (by kernel_rfl) (by kernel_rfl)
      have d213 : bx.tmps.getD 213 undef = .string E2 := hS.dep 104 213 (by kernel_rfl) (by kernel_rfl)
      have gd : bx.tmps.getD 209 undef = .bool true := hS.dep 100 209 (by kernel_rfl) (by kernel_rfl)
      refine .inl ⟨wanted_yes (j := 100) (t := 209) (c := true) (by kernel_rfl) (by kernel_rfl) gd, ends_value' (c := .bool true) ?_⟩
      simp [Act.eval, d211, d213, go_sem]
    | 106, ho =>
      obtain rfl := Option.some.inj ho
      have d209 : bx.tmps.getD 209 undef = .bool true := hS.dep 100 209 (by kernel_rfl) (by kernel_rfl)
      have d214 : bx.tmps.getD 214 undef = .bool true := hS.dep 105 214 (by kernel_rfl) (by kernel_rfl)
      refine .inl ⟨rfl, ends_value' (c := .bool true) ?_⟩
      simp [Act.eval, d209, d214, go_sem]
    | 107, ho =>
      obtain rfl := Option.some.inj ho
      have d215 : bx.tmps.getD 215 undef = .bool true := hS.dep 106 215 (by kernel_rfl) (by kernel_rfl)
      refine .inl ⟨rfl, ends_value' (c := .bool true) ?_⟩
      simp [execOp, Act.eval, d215]
    | n + 108, ho => exact absurd ho (by simp)
  case fin =>
    intro u hbel
    simp [putAll, dstAt, Act.put]
    go_wp2_with fail
    go_ret
    exact ⟨rfl, Below.then bel (pdrew hbel)⟩

theorem reads (os : Os) {H : Type} (enc : TypeId × Value → H) : DataW.whole enc Tryz.prog ((World.laidAll Tryz.prog os Rows.patchBackRow.laid).forCall (fun _ _ => 0) ⟨#[], #[.agg #[.int .u8 0, .int .u32 0, .int .u32 0, .int .u16 0, .int .u16 0, .int .u8 0, .int .u8 0, .string ByteArray.empty, .bool false, .int .u32 0, .int .u32 0], .int .u32 0, .int .u32 0, .int .u16 0, .int .u16 0], []⟩).memory Tryz.f7.params.toList Rows.patchInsideSpec.vars false (#[.agg #[.int .u8 0, .int .u32 0, .int .u32 0, .int .u16 0, .int .u16 0, .int .u8 0, .int .u8 0, .string ByteArray.empty, .bool false, .int .u32 0, .int .u32 0], .int .u32 0, .int .u32 0, .int .u16 0, .int .u16 0] : Array Value).toList 8 = some ([.agg [.lit (.int .u8 0), .lit (.int .u32 0), .lit (.int .u32 0), .lit (.int .u16 0), .lit (.int .u16 0), .lit (.int .u8 0), .lit (.int .u8 0), .lit (.string []), .lit (.bool false), .lit (.int .u32 0), .lit (.int .u32 0)], .lit (.int .u32 0), .lit (.int .u32 0), .lit (.int .u16 0), .lit (.int .u16 0)], [], []) := by kernel_rfl
set_option maxRecDepth 100000 in
theorem lifted (os : Os) (started : os.Started) (H : Type) (enc : TypeId × Value → H) (F : Stop.Interp) :
    ReturnsInHanded {} Tryz.checked os 7 .any ((OpenSpec.ofChange Rows.patchInsideSpec).preRow enc Tryz.prog Tryz.f7 Rows.patchInsideRow.domain false Rows.patchInsideRow.laid) (((OpenSpec.ofChange Rows.patchInsideSpec).at F).post enc Tryz.prog Tryz.f7 false true false false) := by
  refine returnsInHanded_of_row (C := Tryz.checked) (s := (OpenSpec.ofChange Rows.patchInsideSpec)) own started (by kernel_rfl) Tryz.func7
    (witness_row_at (enc := enc) (C := Tryz.checked) false (World.laidAll Tryz.prog os Rows.patchBackRow.laid) #[.agg #[.int .u8 0, .int .u32 0, .int .u32 0, .int .u16 0, .int .u16 0, .int .u8 0, .int .u8 0, .string ByteArray.empty, .bool false, .int .u32 0, .int .u32 0], .int .u32 0, .int .u32 0, .int .u16 0, .int .u16 0] (World.laidAll_os _ _ _) (by kernel_rfl) (by kernel_rfl) (by kernel_rfl)
      (OpenSpec.preRow_of_cond 8 (reads os enc) (by kernel_rfl) (fun k hk => by cases hk) (by kernel_rfl) (laid_met os _))) ?_
  intro W base args ds gs before hval0 hW _ hcond hsz hL _ _
  have hval : ∀ (j : Nat) t v, Tryz.f7.params[j]? = some t → args[j]? = some v → Value.okWide Tryz.prog W .any base t v := hval0
  have hW' := hW
  obtain ⟨p, q, hA0, hV, rfl, hfz, hnd⟩ := hW
  have hA : DataW.TrodAll enc Tryz.prog W 0 (fun _ => true) true Tryz.f7.params.toList args.toList ds p := hA0
  rw [Tryz.params7] at hA hval
  obtain ⟨v0, vs0, d0, ds0, p0, q0, hargs, rfl, rfl, h0, r0⟩ := trodAll_cons hA
  obtain ⟨v1, vs1, d1, ds1, p1, q1, rfl, rfl, rfl, h1, r1⟩ := trodAll_cons r0
  obtain ⟨v2, vs2, d2, ds2, p2, q2, rfl, rfl, rfl, h2, r2⟩ := trodAll_cons r1
  obtain ⟨v3, vs3, d3, ds3, p3, q3, rfl, rfl, rfl, h3, r3⟩ := trodAll_cons r2
  obtain ⟨v4, vs4, d4, ds4, p4, q4, rfl, rfl, rfl, h4, r4⟩ := trodAll_cons r3
  obtain ⟨rfl, rfl, rfl⟩ := trodAll_nil r4
  obtain rfl : args = #[v0, v1, v2, v3, v4] := by cases args; simp_all
  obtain ⟨rfl, rfl⟩ := trodVars_none hV
  obtain ⟨a0, rfl, rfl, rfl, f0⟩ := open_head (hval 0 25 v0 rfl rfl) h0
  obtain ⟨a1, rfl, rfl, rfl, w1⟩ := open_int Tryz.underlying22 (hval 1 22 v1 rfl rfl) h1
  obtain ⟨a2, rfl, rfl, rfl, w2⟩ := open_int Tryz.underlying22 (hval 2 22 v2 rfl rfl) h2
  obtain ⟨a3, rfl, rfl, rfl, w3⟩ := open_int Tryz.underlying23 (hval 3 23 v3 rfl rfl) h3
  obtain ⟨a4, rfl, rfl, rfl, w4⟩ := open_int Tryz.underlying23 (hval 4 23 v4 rfl rfl) h4
  clear hA0 hval0
  simp only [List.append_nil] at hW'
  have w0 : a0.Wf := f0.wf (sized_head hsz (j := 0) rfl rfl)
  refine (walk W (env_of hL) a0 w0 a1 w1 a2 w2 a3 w3 a4 w4).mono fun e W' ⟨he, bel⟩ => ?_
  subst he
  exact ⟨_, rfl, _, _, _, [], _, [], hW', (trodAll_cons_mk (shut_bool Tryz.underlying4 _) trodAll_mk0), (trodAll_cons_mk (shut_head a0 f0) (trodAll_cons_mk (shut_int Tryz.underlying22 w1) (trodAll_cons_mk (shut_int Tryz.underlying22 w2) (trodAll_cons_mk (shut_int Tryz.underlying23 w3) (trodAll_cons_mk (shut_int Tryz.underlying23 w4) trodAll_mk0))))), rfl, bel.frame _, fun h => by cases h⟩

theorem over : Rows.patchInsideRow.holds Tryz.pinned (OpenSpec.ofChange Rows.patchInsideSpec) :=
  OpenClaim.holds_of_cond 7 Tryz.f7 rfl rfl rfl rfl rfl rfl rfl ⟨rfl, rfl, rfl, rfl, rfl⟩ rfl rfl rfl rfl rfl (by kernel_rfl) Tryz.func7 (by kernel_rfl)
    (of_decide_eq_true (by kernel_rfl)) (by unfold Func.isWrapper; first | (rw [if_pos (by decide +kernel)]; kernel_rfl) | (rw [if_neg (by decide +kernel)]; exact ⟨rfl, rfl⟩))
    (fun os started H enc _ F => by rw [OpenClaim.pre_eq_preRow]; exact lifted os started H enc F)

/-- No parameter wants a stand-in; the program's own looks are off. -/
theorem plain (f : FuncId) (fn : Func) (hf : Tryz.pinned.checked.prog.funcNamed Rows.patchInsideRow.func = some f) (hfn : Tryz.pinned.checked.prog.funcs[f]? = some fn) :
    false = Tryz.pinned.checked.prog.looks [] ∧ ∀ (j : Nat) t, fn.params[j]? = some t → Tryz.pinned.checked.prog.wantsStandIn t = false := by
  obtain rfl : f = 7 := Option.some.inj ((show Tryz.prog.funcNamed Rows.patchInsideRow.func = some 7 by kernel_rfl).symm.trans hf) |>.symm
  obtain rfl : fn = Tryz.f7 := (Option.some.inj (Tryz.func7.symm.trans hfn)).symm
  refine ⟨by kernel_rfl, fun j t ht => ?_⟩
  rw [Tryz.params7] at ht
  have hm : t ∈ [25, 22, 22, 23, 23] := by simpa using Array.mem_of_getElem? ht
  have hall : ([25, 22, 22, 23, 23].all fun u => !Tryz.prog.wantsStandIn u) = true := by kernel_rfl
  exact (show Tryz.prog.wantsStandIn t = false by simpa using List.all_eq_true.1 hall t hm)

theorem proved : Rows.PatchInsideCardSaid :=
  Claim7.holds_tied_plain_at .later [] _ _ _ _ over (fun _ h => by cases h) (by kernel_rfl) (fun _ h => by cases h) patchInside_row_tie rfl ⟨rfl, rfl⟩ (by kernel_rfl) rfl plain (by kernel_rfl)
#print axioms proved
end Go.Proofs.YtpjaajeojiaeiaaGreatDoor.patchInside
