/- PatchBack: a packet that was turned is classified with its new ends, and a life one less; turned back it is as it was, but for its life, and its checks; under the given ties of the package's listed variables. -/
import Derived.Test.YtpjaajeojiaeiaaGreatDoorPpLaid
import Derived.Test.YtpjaajeojiaeiaaGreatDoorPkOpM
import Derived.Test.YtpjaajeojiaeiaaGreatDoorPpEx
import Derived.Test.YtpjaajeojiaeiaaGreatDoorPpLaw
namespace Go.Proofs.YtpjaajeojiaeiaaGreatDoor.patchBack
open Go.ChangeShapes Go.WideShapes Go.ChangeAt Go.RowKit
open Go.ChangeMaps (open_string shut_string)
open MO
set_option linter.unusedVariables false
set_option maxHeartbeats 8000000 in
set_option maxRecDepth 100000 in
theorem walk (w : World) (hE : Ic.Env w) (a0 : Mk) (w0 : a0.Wf) (a1 : Int) (w1 : (Lit.int .u32 a1).wf = true) (a2 : Int) (w2 : (Lit.int .u32 a2).wf = true) (a3 : Int) (w3 : (Lit.int .u16 a3).wf = true) (a4 : Int) (w4 : (Lit.int .u16 a4).wf = true) :
    Calls Tryz.prog 5 #[a0.val, .int .u32 a1, .int .u32 a2, .int .u16 a3, .int .u16 a4] w fun e w' => e = .returned (.bool true) ∧ Below w.heap.size w w' := by
  obtain ⟨T, hT⟩ : ∃ T : Int, max a0.ttl 3 = T := ⟨_, rfl⟩
  have T0 : 3 ≤ T := by omega
  have T1 : T ≤ 255 := by have := w0.ttl.2; omega
  obtain ⟨s0, s1⟩ := bounds_u16 w3
  obtain ⟨d0, d1⟩ := bounds_u16 w4
  have k3 : IntKind.i64.wrap a3 = a3 := Oct.wraps_i64 _ s0 (by omega)
  have k4 : IntKind.i64.wrap a4 = a4 := Oct.wraps_i64 _ d0 (by omega)
  have k5 : IntKind.i64.wrap a0.sport = a0.sport := Oct.wraps_i64 _ w0.sport.1 (by have := w0.sport.2; omega)
  have k6 : IntKind.i64.wrap a0.dport = a0.dport := Oct.wraps_i64 _ w0.dport.1 (by have := w0.dport.2; omega)
  have kk : a0.kind.tmod 2 = a0.kind % 2 := Int.tmod_eq_emod_of_nonneg w0.kind.1
  have kw : IntKind.u8.wrap (a0.kind % 2) = a0.kind % 2 := by rw [IntKind.wrap_u8]; omega
  obtain ⟨m, hm⟩ : ∃ m : Mk, (⟨a0.kind % 2, a0.src, a0.dst, a0.sport, a0.dport, a0.flags, T, a0.body, a0.zero, a0.frm, a0.dest⟩ : Mk) = m := ⟨_, rfl⟩
  have wm : m.Wf := by rw [← hm]; exact ⟨by show 0 ≤ a0.kind % 2 ∧ a0.kind % 2 ≤ 255; omega, w0.src, w0.dst, w0.sport, w0.dport, w0.flags, by show 0 ≤ T ∧ T ≤ 255; omega, w0.body, w0.frm, w0.dest⟩
  have hmk : m.kind % 4 < 2 := by rw [← hm]; show a0.kind % 2 % 4 < 2; omega
  have wt : (⟨a1, a2, a3, a4⟩ : En).Wf := ⟨bounds_u32 w1, bounds_u32 w2, bounds_u16 w3, bounds_u16 w4⟩
  have BK := back wm hmk (by rw [← hm]; exact T0) wt
  have w1' := turn_wf wm wt (ttl := m.ttl - 1) (by rw [← hm]; show 0 ≤ T - 1 ∧ T - 1 ≤ 255; omega)
  have w2' := turn_wf wm (ends_wf wm) (ttl := m.ttl - 2) (by rw [← hm]; show 0 ≤ T - 2 ∧ T - 2 ≤ 255; omega)
  have FA := hide (fun u => frame_any m u wm)
  have FN := hide (fun u => frame_any (turn m m.ends (m.ttl - 2)) u w2')
  have P1 := hide (fun u h => plain_any (frameS m) ⟨a1, a2, a3, a4⟩ u (by have := (frame_size wm).2; omega) ⟨wt.src, wt.dst⟩ h)
  have CL := hide (fun u h => classify_any (frameS (turn m ⟨a1, a2, a3, a4⟩ (m.ttl - 1))) u (by have := (frame_size w1').2; omega) h)
  have P2 := hide (fun u h => plain_any (frameS (turn m ⟨a1, a2, a3, a4⟩ (m.ttl - 1))) m.ends u (by have := (frame_size w1').2; omega) ⟨wm.src, wm.dst⟩ h)
  rw [BK.1, BK.2.1] at P1
  obtain ⟨qz, hqz⟩ : ∃ z : Int, z = 0 := ⟨0, rfl⟩
  have c' : clsP (frameS (turn m ⟨a1, a2, a3, a4⟩ (m.ttl - 1))) = ⟨1, 20, (frameS (turn m ⟨a1, a2, a3, a4⟩ (m.ttl - 1))).size, ⟨pr m, a1, a2, a3, a4⟩, if pr m = 6 then m.flags % 64 else 0, m.ttl - 1, a1, a2, qz, qz⟩ := by rw [hqz]; exact BK.2.2.2.1
  rw [BK.2.2.1, c'] at CL
  clear c' hqz
  rw [BK.2.2.2.2.1, BK.2.2.2.2.2.1] at P2
  have sz := BK.2.2.2.2.2.2
  generalize frameS (turn m ⟨a1, a2, a3, a4⟩ (m.ttl - 1)) = S at *
  generalize frameS (turn m m.ends (m.ttl - 2)) = FF at *
  generalize frameS m = F at *
  generalize (if pr m = 6 then m.flags % 64 else 0) = fl at *
  generalize pr m = pp at *
  have sz' : (S.size : Int) = F.size := by omega
  rw [sz'] at CL
  obtain ⟨nS, hnS⟩ : ∃ n : Int, (F.size : Int) = n := ⟨_, rfl⟩
  rw [hnS] at sz' CL
  rw [← hm] at FA FN CL P2
  simp only [turn, Mk.ends] at FN P2
  have kt : IntKind.i64.wrap T = T := Oct.wraps_i64 _ (by omega) (by omega)
  have k2 : IntKind.u8.wrap (T - 2) = T - 2 := by rw [IntKind.wrap_u8]; omega
  obtain ⟨N2, hN2⟩ : ∃ N2 : Int, T - 2 = N2 := ⟨_, rfl⟩
  rw [hN2] at k2 FN
  obtain ⟨N1, hN1⟩ : ∃ N1 : Int, T - 1 = N1 := ⟨_, rfl⟩
  change Hid (∀ u, Ic.Env u → Calls _ _ _ u fun e w' => e = .returned (.tuple #[(Pk.val ⟨1, 20, nS, ⟨pp, a1, a2, a3, a4⟩, fl, T - 1, a1, a2, qz, qz⟩), .int .i64 0]) ∧ _) at CL
  rw [hN1] at CL
  clear BK
  clear sz
  clear hmk
  clear w1'
  clear w2'
  clear wm
  clear hm
  have KE := hide (fun u h => examples_any u h)
  have r0 := row_new w a0.cells 25
  have bel := alloc_on' w (.cells a0.cells.toArray 25)
  go_enter Tryz.func5, Tryz.ntmps5
  have HT := hide hT
  have HN := hide (And.intro hN1 hN2)
  have r0c0 := r0.cell 0 _ rfl
  have r0c1 := r0.cell 1 _ rfl
  have r0c2 := r0.cell 2 _ rfl
  have r0c3 := r0.cell 3 _ rfl
  have r0c4 := r0.cell 4 _ rfl
  have r0c5 := r0.cell 5 _ rfl
  have r0c6 := r0.cell 6 _ rfl
  have r0c7 := r0.cell 7 _ rfl
  have r0c8 := r0.cell 8 _ rfl
  have r0c9 := r0.cell 9 _ rfl
  have r0c10 := r0.cell 10 _ rfl
  go_wp2_with fail
  refine (unhide KE _ (hE.on bel)).mono ?_
  rintro e v1 ⟨rfl, hb⟩
  replace r0 := r0.on' hb
  replace bel := Below.then bel hb
  clear r0c0 r0c1 r0c2 r0c3 r0c4 r0c5 r0c6 r0c7 r0c8 r0c9 r0c10
  clear hb
  have r0c0 := r0.cell 0 _ rfl
  have r0c1 := r0.cell 1 _ rfl
  have r0c2 := r0.cell 2 _ rfl
  have r0c3 := r0.cell 3 _ rfl
  have r0c4 := r0.cell 4 _ rfl
  have r0c5 := r0.cell 5 _ rfl
  have r0c6 := r0.cell 6 _ rfl
  have r0c7 := r0.cell 7 _ rfl
  have r0c8 := r0.cell 8 _ rfl
  have r0c9 := r0.cell 9 _ rfl
  have r0c10 := r0.cell 10 _ rfl
  have sr0c2 := r0.cell 0 _ rfl
  have sr0f2 := r0.free 0
  replace r0 := r0.set 0 (.int .u8 (a0.kind % 2))
  replace bel := bel.setCell (p := ⟨w.heap.size, 0, none⟩) (show w.heap.size ≤ w.heap.size by omega) (.int .u8 (a0.kind % 2))
  obtain ⟨V2, eV2⟩ : ∃ V, v1.setCell ⟨w.heap.size, 0, none⟩ (.int .u8 (a0.kind % 2)) = V := ⟨_, rfl⟩
  rw [eV2] at r0 bel
  replace r0 : Row V2 w.heap.size ([.int .u8 (a0.kind % 2), .int .u32 a0.src, .int .u32 a0.dst, .int .u16 a0.sport, .int .u16 a0.dport, .int .u8 a0.flags, .int .u8 a0.ttl, .string a0.body, .bool a0.zero, .int .u32 a0.frm, .int .u32 a0.dest]) := r0
  have sr0c3 := r0.cell 6 _ rfl
  have sr0f3 := r0.free 6
  replace r0 := r0.set 6 (.int .u8 T)
  replace bel := bel.setCell (p := ⟨w.heap.size, 6, none⟩) (show w.heap.size ≤ w.heap.size by omega) (.int .u8 T)
  obtain ⟨V3, eV3⟩ : ∃ V, V2.setCell ⟨w.heap.size, 6, none⟩ (.int .u8 T) = V := ⟨_, rfl⟩
  rw [eV3] at r0 bel
  replace r0 : Row V3 w.heap.size ([.int .u8 (a0.kind % 2), .int .u32 a0.src, .int .u32 a0.dst, .int .u16 a0.sport, .int .u16 a0.dport, .int .u8 a0.flags, .int .u8 T, .string a0.body, .bool a0.zero, .int .u32 a0.frm, .int .u32 a0.dest]) := r0
  clear r0c0 r0c1 r0c2 r0c3 r0c4 r0c5 r0c6 r0c7 r0c8 r0c9 r0c10
  have r0c0 := r0.cell 0 _ rfl
  have r0c1 := r0.cell 1 _ rfl
  have r0c2 := r0.cell 2 _ rfl
  have r0c3 := r0.cell 3 _ rfl
  have r0c4 := r0.cell 4 _ rfl
  have r0c5 := r0.cell 5 _ rfl
  have r0c6 := r0.cell 6 _ rfl
  have r0c7 := r0.cell 7 _ rfl
  have r0c8 := r0.cell 8 _ rfl
  have r0c9 := r0.cell 9 _ rfl
  have r0c10 := r0.cell 10 _ rfl
  go_wp2_with fail
  refine (unhide FA _).mono ?_
  rintro e v4 ⟨rfl, hb⟩
  replace r0 := r0.on' hb
  replace bel := Below.then bel hb
  clear sr0c2 sr0f2 eV2 sr0c3 sr0f3 eV3 r0c0 r0c1 r0c2 r0c3 r0c4 r0c5 r0c6 r0c7 r0c8 r0c9 r0c10
  clear hb
  go_wp2_with fail
  refine (unhide P1 _ (hE.on bel)).mono ?_
  rintro e v5 ⟨rfl, hb⟩
  replace r0 := r0.on' hb
  replace bel := Below.then bel hb
  clear hb
  go_wp2_with fail
  refine (unhide CL _ (hE.on bel)).mono ?_
  rintro e v6 ⟨rfl, hb⟩
  replace r0 := r0.on' hb
  replace bel := Below.then bel hb
  clear hb
  have lerc := bel.size
  have ltr0rc := r0.lt
  have nn := alloc_on' v6 (.cells #[.int .i64 1, .int .i64 20, .int .i64 nS, .int .i64 pp, .int .u32 a1, .int .u32 a2, .int .i64 a3, .int .i64 a4, .int .i64 fl, .int .i64 N1, .int .u32 a1, .int .u32 a2, .int .i64 qz, .int .i64 qz] 45)
  have rc := row_new v6 [.int .i64 1, .int .i64 20, .int .i64 nS, .int .i64 pp, .int .u32 a1, .int .u32 a2, .int .i64 a3, .int .i64 a4, .int .i64 fl, .int .i64 N1, .int .u32 a1, .int .u32 a2, .int .i64 qz, .int .i64 qz] 45
  obtain ⟨V7, eV7⟩ : ∃ V, v6.alloc (.cells #[.int .i64 1, .int .i64 20, .int .i64 nS, .int .i64 pp, .int .u32 a1, .int .u32 a2, .int .i64 a3, .int .i64 a4, .int .i64 fl, .int .i64 N1, .int .u32 a1, .int .u32 a2, .int .i64 qz, .int .i64 qz] 45) = V := ⟨_, rfl⟩
  rw [eV7] at nn rc
  replace r0 := r0.on' nn
  replace bel := Below.then bel nn
  clear nn
  have r0c0 := r0.cell 0 _ rfl
  have r0c1 := r0.cell 1 _ rfl
  have r0c2 := r0.cell 2 _ rfl
  have r0c3 := r0.cell 3 _ rfl
  have r0c4 := r0.cell 4 _ rfl
  have r0c5 := r0.cell 5 _ rfl
  have r0c6 := r0.cell 6 _ rfl
  have r0c7 := r0.cell 7 _ rfl
  have r0c8 := r0.cell 8 _ rfl
  have r0c9 := r0.cell 9 _ rfl
  have r0c10 := r0.cell 10 _ rfl
  go_wp2_with fail
  refine (unhide P2 _ (hE.on bel)).mono ?_
  rintro e v8 ⟨rfl, hb⟩
  replace r0 := r0.on' hb
  replace rc := rc.on' hb
  replace bel := Below.then bel hb
  clear eV7 r0c0 r0c1 r0c2 r0c3 r0c4 r0c5 r0c6 r0c7 r0c8 r0c9 r0c10
  clear hb
  have r0c0 := r0.cell 0 _ rfl
  have r0c1 := r0.cell 1 _ rfl
  have r0c2 := r0.cell 2 _ rfl
  have r0c3 := r0.cell 3 _ rfl
  have r0c4 := r0.cell 4 _ rfl
  have r0c5 := r0.cell 5 _ rfl
  have r0c6 := r0.cell 6 _ rfl
  have r0c7 := r0.cell 7 _ rfl
  have r0c8 := r0.cell 8 _ rfl
  have r0c9 := r0.cell 9 _ rfl
  have r0c10 := r0.cell 10 _ rfl
  have lern := bel.size
  have ltr0rn := r0.lt
  have ltrcrn := rc.lt
  have nn := alloc_on' v8 (.cells #[.int .u8 (a0.kind % 2), .int .u32 a0.src, .int .u32 a0.dst, .int .u16 a0.sport, .int .u16 a0.dport, .int .u8 a0.flags, .int .u8 T, .string a0.body, .bool a0.zero, .int .u32 a0.frm, .int .u32 a0.dest] 25)
  have rn := row_new v8 [.int .u8 (a0.kind % 2), .int .u32 a0.src, .int .u32 a0.dst, .int .u16 a0.sport, .int .u16 a0.dport, .int .u8 a0.flags, .int .u8 T, .string a0.body, .bool a0.zero, .int .u32 a0.frm, .int .u32 a0.dest] 25
  obtain ⟨V9, eV9⟩ : ∃ V, v8.alloc (.cells #[.int .u8 (a0.kind % 2), .int .u32 a0.src, .int .u32 a0.dst, .int .u16 a0.sport, .int .u16 a0.dport, .int .u8 a0.flags, .int .u8 T, .string a0.body, .bool a0.zero, .int .u32 a0.frm, .int .u32 a0.dest] 25) = V := ⟨_, rfl⟩
  rw [eV9] at nn rn
  replace r0 := r0.on' nn
  replace rc := rc.on' nn
  replace bel := Below.then bel nn
  clear nn
  have q0c6 := r0.cell 6 _ rfl
  have srnc10 := rn.cell 6 _ rfl
  have srnf10 := rn.free 6
  replace r0 := r0.other (b := v8.heap.size) (by omega) 6 (.int .u8 N2)
  replace rc := rc.other (b := v8.heap.size) (by omega) 6 (.int .u8 N2)
  replace rn := rn.set 6 (.int .u8 N2)
  replace bel := bel.setCell (p := ⟨v8.heap.size, 6, none⟩) (show w.heap.size ≤ v8.heap.size by omega) (.int .u8 N2)
  obtain ⟨V10, eV10⟩ : ∃ V, V9.setCell ⟨v8.heap.size, 6, none⟩ (.int .u8 N2) = V := ⟨_, rfl⟩
  rw [eV10] at r0 rc rn bel
  replace rn : Row V10 v8.heap.size ([.int .u8 (a0.kind % 2), .int .u32 a0.src, .int .u32 a0.dst, .int .u16 a0.sport, .int .u16 a0.dport, .int .u8 a0.flags, .int .u8 N2, .string a0.body, .bool a0.zero, .int .u32 a0.frm, .int .u32 a0.dest]) := rn
  have p0c6 := r0.cell 6 _ rfl
  have rcc0 := rc.cell 0 _ rfl
  have rcc1 := rc.cell 1 _ rfl
  have rcc2 := rc.cell 2 _ rfl
  have rcc3 := rc.cell 3 _ rfl
  have rcc4 := rc.cell 4 _ rfl
  have rcc5 := rc.cell 5 _ rfl
  have rcc6 := rc.cell 6 _ rfl
  have rcc7 := rc.cell 7 _ rfl
  have rcc8 := rc.cell 8 _ rfl
  have rcc9 := rc.cell 9 _ rfl
  have rcc10 := rc.cell 10 _ rfl
  have rcc11 := rc.cell 11 _ rfl
  have rcc12 := rc.cell 12 _ rfl
  have rcc13 := rc.cell 13 _ rfl
  have rnc0 := rn.cell 0 _ rfl
  have rnc1 := rn.cell 1 _ rfl
  have rnc2 := rn.cell 2 _ rfl
  have rnc3 := rn.cell 3 _ rfl
  have rnc4 := rn.cell 4 _ rfl
  have rnc5 := rn.cell 5 _ rfl
  have rnc6 := rn.cell 6 _ rfl
  have rnc7 := rn.cell 7 _ rfl
  have rnc8 := rn.cell 8 _ rfl
  have rnc9 := rn.cell 9 _ rfl
  have rnc10 := rn.cell 10 _ rfl
  go_wp2_with fail
  refine (unhide FN _).mono ?_
  rintro e v11 ⟨rfl, hb⟩
  replace r0 := r0.on' hb
  replace rc := rc.on' hb
  replace rn := rn.on' hb
  replace bel := Below.then bel hb
  clear r0c0 r0c1 r0c2 r0c3 r0c4 r0c5 r0c6 r0c7 r0c8 r0c9 r0c10 eV9 q0c6 srnc10 srnf10 eV10 p0c6 rcc0 rcc1 rcc2 rcc3 rcc4 rcc5 rcc6 rcc7 rcc8 rcc9 rcc10 rcc11 rcc12 rcc13 rnc0 rnc1 rnc2 rnc3 rnc4 rnc5 rnc6 rnc7 rnc8 rnc9 rnc10
  clear hb
  go_wp2_with fail
  go_ret
  exact ⟨rfl, bel⟩

theorem reads (os : Os) {H : Type} (enc : TypeId × Value → H) : DataW.whole enc Tryz.prog ((World.laidAll Tryz.prog os Rows.patchBackRow.laid).forCall (fun _ _ => 0) ⟨#[], #[.agg #[.int .u8 0, .int .u32 0, .int .u32 0, .int .u16 0, .int .u16 0, .int .u8 0, .int .u8 0, .string ByteArray.empty, .bool false, .int .u32 0, .int .u32 0], .int .u32 0, .int .u32 0, .int .u16 0, .int .u16 0], []⟩).memory Tryz.f5.params.toList Rows.patchBackSpec.vars false (#[.agg #[.int .u8 0, .int .u32 0, .int .u32 0, .int .u16 0, .int .u16 0, .int .u8 0, .int .u8 0, .string ByteArray.empty, .bool false, .int .u32 0, .int .u32 0], .int .u32 0, .int .u32 0, .int .u16 0, .int .u16 0] : Array Value).toList 8 = some ([.agg [.lit (.int .u8 0), .lit (.int .u32 0), .lit (.int .u32 0), .lit (.int .u16 0), .lit (.int .u16 0), .lit (.int .u8 0), .lit (.int .u8 0), .lit (.string []), .lit (.bool false), .lit (.int .u32 0), .lit (.int .u32 0)], .lit (.int .u32 0), .lit (.int .u32 0), .lit (.int .u16 0), .lit (.int .u16 0)], [], []) := by kernel_rfl
set_option maxRecDepth 100000 in
theorem lifted (os : Os) (started : os.Started) (H : Type) (enc : TypeId × Value → H) (F : Stop.Interp) :
    ReturnsInHanded {} Tryz.checked os 5 .any ((OpenSpec.ofChange Rows.patchBackSpec).preRow enc Tryz.prog Tryz.f5 Rows.patchBackRow.domain false Rows.patchBackRow.laid) (((OpenSpec.ofChange Rows.patchBackSpec).at F).post enc Tryz.prog Tryz.f5 false true false false) := by
  refine returnsInHanded_of_row (C := Tryz.checked) (s := (OpenSpec.ofChange Rows.patchBackSpec)) own started (by kernel_rfl) Tryz.func5
    (witness_row_at (enc := enc) (C := Tryz.checked) false (World.laidAll Tryz.prog os Rows.patchBackRow.laid) #[.agg #[.int .u8 0, .int .u32 0, .int .u32 0, .int .u16 0, .int .u16 0, .int .u8 0, .int .u8 0, .string ByteArray.empty, .bool false, .int .u32 0, .int .u32 0], .int .u32 0, .int .u32 0, .int .u16 0, .int .u16 0] (World.laidAll_os _ _ _) (by kernel_rfl) (by kernel_rfl) (by kernel_rfl)
      (OpenSpec.preRow_of_cond 8 (reads os enc) (by kernel_rfl) (fun k hk => by cases hk) (by kernel_rfl) (laid_met os _))) ?_
  intro W base args ds gs before hval0 hW _ hcond hsz hL _ _
  have hval : ∀ (j : Nat) t v, Tryz.f5.params[j]? = some t → args[j]? = some v → Value.okWide Tryz.prog W .any base t v := hval0
  have hW' := hW
  obtain ⟨p, q, hA0, hV, rfl, hfz, hnd⟩ := hW
  have hA : DataW.TrodAll enc Tryz.prog W 0 (fun _ => true) true Tryz.f5.params.toList args.toList ds p := hA0
  rw [Tryz.params5] at hA hval
  obtain ⟨v0, vs0, d0, ds0, p0, q0, hargs, rfl, rfl, h0, r0⟩ := trodAll_cons hA
  obtain ⟨v1, vs1, d1, ds1, p1, q1, rfl, rfl, rfl, h1, r1⟩ := trodAll_cons r0
  obtain ⟨v2, vs2, d2, ds2, p2, q2, rfl, rfl, rfl, h2, r2⟩ := trodAll_cons r1
  obtain ⟨v3, vs3, d3, ds3, p3, q3, rfl, rfl, rfl, h3, r3⟩ := trodAll_cons r2
  obtain ⟨v4, vs4, d4, ds4, p4, q4, rfl, rfl, rfl, h4, r4⟩ := trodAll_cons r3
  obtain ⟨rfl, rfl, rfl⟩ := trodAll_nil r4
  obtain rfl : args = #[v0, v1, v2, v3, v4] := by cases args; simp_all
  obtain ⟨rfl, rfl⟩ := trodVars_none hV
  obtain ⟨a0, rfl, rfl, rfl, f0⟩ := open_head (hval 0 25 v0 rfl rfl) h0
  obtain ⟨a1, rfl, rfl, rfl, w1⟩ := open_int Tryz.underlying22 (hval 1 22 v1 rfl rfl) h1
  obtain ⟨a2, rfl, rfl, rfl, w2⟩ := open_int Tryz.underlying22 (hval 2 22 v2 rfl rfl) h2
  obtain ⟨a3, rfl, rfl, rfl, w3⟩ := open_int Tryz.underlying23 (hval 3 23 v3 rfl rfl) h3
  obtain ⟨a4, rfl, rfl, rfl, w4⟩ := open_int Tryz.underlying23 (hval 4 23 v4 rfl rfl) h4
  clear hA0 hval0
  simp only [List.append_nil] at hW'
  have w0 : a0.Wf := f0.wf (sized_head hsz (j := 0) rfl rfl)
  refine (walk W (env_of hL) a0 w0 a1 w1 a2 w2 a3 w3 a4 w4).mono fun e W' ⟨he, bel⟩ => ?_
  subst he
  exact ⟨_, rfl, _, _, _, [], _, [], hW', (trodAll_cons_mk (shut_bool Tryz.underlying4 _) trodAll_mk0), (trodAll_cons_mk (shut_head a0 f0) (trodAll_cons_mk (shut_int Tryz.underlying22 w1) (trodAll_cons_mk (shut_int Tryz.underlying22 w2) (trodAll_cons_mk (shut_int Tryz.underlying23 w3) (trodAll_cons_mk (shut_int Tryz.underlying23 w4) trodAll_mk0))))), rfl, bel.frame _, fun h => by cases h⟩

theorem over : Rows.patchBackRow.holds Tryz.pinned (OpenSpec.ofChange Rows.patchBackSpec) :=
  OpenClaim.holds_of_cond 5 Tryz.f5 rfl rfl rfl rfl rfl rfl rfl ⟨rfl, rfl, rfl, rfl, rfl⟩ rfl rfl rfl rfl rfl (by kernel_rfl) Tryz.func5 (by kernel_rfl)
    (of_decide_eq_true (by kernel_rfl)) (by unfold Func.isWrapper; first | (rw [if_pos (by decide +kernel)]; kernel_rfl) | (rw [if_neg (by decide +kernel)]; exact ⟨rfl, rfl⟩))
    (fun os started H enc _ F => by rw [OpenClaim.pre_eq_preRow]; exact lifted os started H enc F)

/-- No parameter wants a stand-in; the program's own looks are off. -/
theorem plain (f : FuncId) (fn : Func) (hf : Tryz.pinned.checked.prog.funcNamed Rows.patchBackRow.func = some f) (hfn : Tryz.pinned.checked.prog.funcs[f]? = some fn) :
    false = Tryz.pinned.checked.prog.looks [] ∧ ∀ (j : Nat) t, fn.params[j]? = some t → Tryz.pinned.checked.prog.wantsStandIn t = false := by
  obtain rfl : f = 5 := Option.some.inj ((show Tryz.prog.funcNamed Rows.patchBackRow.func = some 5 by kernel_rfl).symm.trans hf) |>.symm
  obtain rfl : fn = Tryz.f5 := (Option.some.inj (Tryz.func5.symm.trans hfn)).symm
  refine ⟨by kernel_rfl, fun j t ht => ?_⟩
  rw [Tryz.params5] at ht
  have hm : t ∈ [25, 22, 22, 23, 23] := by simpa using Array.mem_of_getElem? ht
  have hall : ([25, 22, 22, 23, 23].all fun u => !Tryz.prog.wantsStandIn u) = true := by kernel_rfl
  exact (show Tryz.prog.wantsStandIn t = false by simpa using List.all_eq_true.1 hall t hm)

theorem proved : Rows.PatchBackCardSaid :=
  Claim7.holds_tied_plain_at .later [] _ _ _ _ over (fun _ h => by cases h) (by kernel_rfl) (fun _ h => by cases h) patchBack_row_tie rfl ⟨rfl, rfl⟩ (by kernel_rfl) rfl plain (by kernel_rfl)
#print axioms proved
end Go.Proofs.YtpjaajeojiaeiaaGreatDoor.patchBack
