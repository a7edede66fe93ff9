/- PatchRefuses: a packet whose life is at its end is refused, with whatever ends; a port that is none is refused; a packet is not turned as a message, nor a message as a packet; under the given ties of the package's listed variables. -/
import Derived.Test.YtpjaajeojiaeiaaGreatDoorPpLaid
import Derived.Test.YtpjaajeojiaeiaaGreatDoorPkOpM
import Derived.Test.YtpjaajeojiaeiaaGreatDoorPpEx
import Derived.Test.YtpjaajeojiaeiaaGreatDoorPpLaw
namespace Go.Proofs.YtpjaajeojiaeiaaGreatDoor.patchRefuses
open Go.ChangeShapes Go.WideShapes Go.ChangeAt Go.RowKit
open Go.ChangeMaps (open_string shut_string)
open MO
set_option linter.unusedVariables false
theorem u32s (a b : Int) (h : 0 ≤ a ∧ a ≤ 100 ∧ 0 ≤ b ∧ b ≤ 100) : Ps.U32 a ∧ Ps.U32 b := ⟨⟨by omega, by omega⟩, ⟨by omega, by omega⟩⟩
set_option maxHeartbeats 8000000 in
set_option maxRecDepth 100000 in
theorem way_po_lo (w : World) (hE : Ic.Env w) (a0 : Mk) (w0 : a0.Wf) (a1 : Int) (w1 : (Lit.int .u8 a1).wf = true) (a2 : Int) (hk : a0.kind % 4 < 2) (ht : a1 % 6 < 2) (hp : a2 < 0) :
    Calls Tryz.prog 8 #[a0.val, .int .u8 a1, .int .i64 a2] w fun e w' => e = .returned (.bool true) ∧ Below w.heap.size w w' := by
  obtain ⟨b0, b1⟩ := bounds_u8 w1
  have kr : a1.tmod 6 = a1 % 6 := Int.tmod_eq_emod_of_nonneg b0
  have kr2 : IntKind.u8.wrap (a1 % 6) = a1 % 6 := by rw [IntKind.wrap_u8]; omega
  obtain ⟨T, hT⟩ : ∃ T : Int, a1 % 6 = T := ⟨_, rfl⟩
  have T0 : 0 ≤ T := by omega
  have T1 : T ≤ 255 := by omega
  rw [hT] at kr kr2 ht
  have k4m : a0.kind.tmod 4 = a0.kind % 4 := Int.tmod_eq_emod_of_nonneg w0.kind.1
  have k4w : IntKind.u8.wrap (a0.kind % 4) = a0.kind % 4 := by rw [IntKind.wrap_u8]; omega
  obtain ⟨m, hm⟩ : ∃ m : Mk, (⟨a0.kind, a0.src, a0.dst, a0.sport, a0.dport, a0.flags, T, a0.body, a0.zero, a0.frm, a0.dest⟩ : Mk) = m := ⟨_, rfl⟩
  have wm : m.Wf := by rw [← hm]; exact ⟨w0.kind, w0.src, w0.dst, w0.sport, w0.dport, w0.flags, by show 0 ≤ T ∧ T ≤ 255; omega, w0.body, w0.frm, w0.dest⟩
  have hmk : m.kind % 4 < 2 := by rw [← hm]; exact hk
  have sz := (frame_size wm).2
  have mt : m.ttl = T := by rw [← hm]
  have i3 : prtB 3 = true := prt_in (by decide)
  have i4 : prtB 4 = true := prt_in (by decide)
  have ip : prtB a2 = false := prt_out (.inl hp)
  have FA := hide (fun u => frame_any m u wm)
  have P1 := hide (fun u h => plain_any (frameS m) ⟨1, 2, 3, 4⟩ u (by omega) (u32s 1 2 (by decide)) h)
  have P2 := hide (fun u h => plain_any (frameS m) ⟨1, 2, 3, a2⟩ u (by omega) (u32s 1 2 (by decide)) h)
  have Q1 := hide (fun u h => about_any (frameS m) 1 2 ⟨1, 2, 3, 4⟩ u (by omega) (u32s 1 2 (by decide)).1 (u32s 1 2 (by decide)).2 (u32s 1 2 (by decide)) h)
  have Q2 := hide (fun u h => about_any (frameS m) 1 2 ⟨1, 2, 3, a2⟩ u (by omega) (u32s 1 2 (by decide)).1 (u32s 1 2 (by decide)).2 (u32s 1 2 (by decide)) h)
  have E1 := err_plain wm hmk ⟨1, 2, 3, 4⟩ ⟨#[]⟩
  have E2 := err_plain wm hmk ⟨1, 2, 3, a2⟩ ⟨#[]⟩
  rw [mt, err_of i3 i4, if_pos ht, Ps.app_nil] at E1
  rw [mt, err_of' i3 ip, Ps.app_nil] at E2
  have D1 := (plain_no_about wm hmk ⟨1, 2, 3, 4⟩ 1 2 ⟨#[]⟩).1
  have D2 := (plain_no_about wm hmk ⟨1, 2, 3, a2⟩ 1 2 ⟨#[]⟩).1
  rw [Ps.app_nil] at D1 D2
  rw [E1] at P1
  rw [E2] at P2
  rw [D1] at Q1
  rw [D2] at Q2
  clear E1 E2 D1 D2
  generalize plainS (frameS m) ⟨1, 2, 3, 4⟩ = x1 at *
  generalize plainS (frameS m) ⟨1, 2, 3, a2⟩ = x2 at *
  generalize aboutS (frameS m) 1 2 ⟨1, 2, 3, 4⟩ = x3 at *
  generalize aboutS (frameS m) 1 2 ⟨1, 2, 3, a2⟩ = x4 at *
  generalize frameS m = F at *
  rw [← hm] at FA
  clear mt sz hmk wm hm i3 i4 ip
  have KE := hide (fun u h => examples_any u h)
  have r0 := row_new w a0.cells 25
  have bel := alloc_on' w (.cells a0.cells.toArray 25)
  go_enter Tryz.func8, Tryz.ntmps8
  have r0c0 := r0.cell 0 _ rfl
  have r0c1 := r0.cell 1 _ rfl
  have r0c2 := r0.cell 2 _ rfl
  have r0c3 := r0.cell 3 _ rfl
  have r0c4 := r0.cell 4 _ rfl
  have r0c5 := r0.cell 5 _ rfl
  have r0c6 := r0.cell 6 _ rfl
  have r0c7 := r0.cell 7 _ rfl
  have r0c8 := r0.cell 8 _ rfl
  have r0c9 := r0.cell 9 _ rfl
  have r0c10 := r0.cell 10 _ rfl
  go_wp2_with fail
  refine (unhide KE _ (hE.on bel)).mono ?_
  rintro e v1 ⟨rfl, hb⟩
  replace r0 := r0.on' hb
  replace bel := Below.then bel hb
  clear r0c0 r0c1 r0c2 r0c3 r0c4 r0c5 r0c6 r0c7 r0c8 r0c9 r0c10
  clear hb
  have k0c6 := r0.cell 6 _ rfl
  have sr0c2 := r0.cell 6 _ rfl
  have sr0f2 := r0.free 6
  replace r0 := r0.set 6 (.int .u8 T)
  replace bel := bel.setCell (p := ⟨w.heap.size, 6, none⟩) (show w.heap.size ≤ w.heap.size by omega) (.int .u8 T)
  obtain ⟨V2, eV2⟩ : ∃ V, v1.setCell ⟨w.heap.size, 6, none⟩ (.int .u8 T) = V := ⟨_, rfl⟩
  rw [eV2] at r0 bel
  replace r0 : Row V2 w.heap.size ([.int .u8 a0.kind, .int .u32 a0.src, .int .u32 a0.dst, .int .u16 a0.sport, .int .u16 a0.dport, .int .u8 a0.flags, .int .u8 T, .string a0.body, .bool a0.zero, .int .u32 a0.frm, .int .u32 a0.dest]) := r0
  have r0c0 := r0.cell 0 _ rfl
  have r0c1 := r0.cell 1 _ rfl
  have r0c2 := r0.cell 2 _ rfl
  have r0c3 := r0.cell 3 _ rfl
  have r0c4 := r0.cell 4 _ rfl
  have r0c5 := r0.cell 5 _ rfl
  have r0c6 := r0.cell 6 _ rfl
  have r0c7 := r0.cell 7 _ rfl
  have r0c8 := r0.cell 8 _ rfl
  have r0c9 := r0.cell 9 _ rfl
  have r0c10 := r0.cell 10 _ rfl
  go_wp2_with fail
  refine (unhide FA _).mono ?_
  rintro e v3 ⟨rfl, hb⟩
  replace r0 := r0.on' hb
  replace bel := Below.then bel hb
  clear k0c6 sr0c2 sr0f2 eV2 r0c0 r0c1 r0c2 r0c3 r0c4 r0c5 r0c6 r0c7 r0c8 r0c9 r0c10
  clear hb
  have lert := bel.size
  have ltr0rt := r0.lt
  have nn := alloc_on' v3 (.cells #[.int .u32 1, .int .u32 2, .int .i64 3, .int .i64 4] 27)
  have rt := row_new v3 [.int .u32 1, .int .u32 2, .int .i64 3, .int .i64 4] 27
  obtain ⟨V4, eV4⟩ : ∃ V, v3.alloc (.cells #[.int .u32 1, .int .u32 2, .int .i64 3, .int .i64 4] 27) = V := ⟨_, rfl⟩
  rw [eV4] at nn rt
  replace r0 := r0.on' nn
  replace bel := Below.then bel nn
  clear nn
  have rtc0 := rt.cell 0 _ rfl
  have rtc1 := rt.cell 1 _ rfl
  have rtc2 := rt.cell 2 _ rfl
  have rtc3 := rt.cell 3 _ rfl
  have lerb := bel.size
  have ltr0rb := r0.lt
  have ltrtrb := rt.lt
  have nn := alloc_on' V4 (.cells #[.int .u32 1, .int .u32 2, .int .i64 3, .int .i64 4] 27)
  have rb := row_new V4 [.int .u32 1, .int .u32 2, .int .i64 3, .int .i64 4] 27
  obtain ⟨V5, eV5⟩ : ∃ V, V4.alloc (.cells #[.int .u32 1, .int .u32 2, .int .i64 3, .int .i64 4] 27) = V := ⟨_, rfl⟩
  rw [eV5] at nn rb
  replace r0 := r0.on' nn
  replace rt := rt.on' nn
  replace bel := Below.then bel nn
  clear nn
  have rbc3 := rb.cell 3 _ rfl
  have srbc6 := rb.cell 3 _ rfl
  have srbf6 := rb.free 3
  replace r0 := r0.other (b := V4.heap.size) (by omega) 3 (.int .i64 a2)
  replace rt := rt.other (b := V4.heap.size) (by omega) 3 (.int .i64 a2)
  replace rb := rb.set 3 (.int .i64 a2)
  replace bel := bel.setCell (p := ⟨V4.heap.size, 3, none⟩) (show w.heap.size ≤ V4.heap.size by omega) (.int .i64 a2)
  obtain ⟨V6, eV6⟩ : ∃ V, V5.setCell ⟨V4.heap.size, 3, none⟩ (.int .i64 a2) = V := ⟨_, rfl⟩
  rw [eV6] at r0 rt rb bel
  replace rb : Row V6 V4.heap.size ([.int .u32 1, .int .u32 2, .int .i64 3, .int .i64 a2]) := rb
  have yt0 := rt.cell 0 _ rfl
  have yt1 := rt.cell 1 _ rfl
  have yt2 := rt.cell 2 _ rfl
  have yt3 := rt.cell 3 _ rfl
  go_wp2_with fail
  refine (unhide P1 _ (hE.on bel)).mono ?_
  rintro e v7 ⟨rfl, hb⟩
  replace r0 := r0.on' hb
  replace rt := rt.on' hb
  replace rb := rb.on' hb
  replace bel := Below.then bel hb
  clear eV4 rtc0 rtc1 rtc2 rtc3 eV5 rbc3 srbc6 srbf6 eV6 yt0 yt1 yt2 yt3
  clear hb
  have rtc0 := rt.cell 0 _ rfl
  have rtc1 := rt.cell 1 _ rfl
  have rtc2 := rt.cell 2 _ rfl
  have rtc3 := rt.cell 3 _ rfl
  go_wp2_with fail
  refine (unhide Q1 _ (hE.on bel)).mono ?_
  rintro e v8 ⟨rfl, hb⟩
  replace r0 := r0.on' hb
  replace rt := rt.on' hb
  replace rb := rb.on' hb
  replace bel := Below.then bel hb
  clear rtc0 rtc1 rtc2 rtc3
  clear hb
  have rbc0 := rb.cell 0 _ rfl
  have rbc1 := rb.cell 1 _ rfl
  have rbc2 := rb.cell 2 _ rfl
  have rbc3 := rb.cell 3 _ rfl
  go_wp2_with fail
  refine (unhide P2 _ (hE.on bel)).mono ?_
  rintro e v9 ⟨rfl, hb⟩
  replace r0 := r0.on' hb
  replace rt := rt.on' hb
  replace rb := rb.on' hb
  replace bel := Below.then bel hb
  clear rbc0 rbc1 rbc2 rbc3
  clear hb
  have rbc0 := rb.cell 0 _ rfl
  have rbc1 := rb.cell 1 _ rfl
  have rbc2 := rb.cell 2 _ rfl
  have rbc3 := rb.cell 3 _ rfl
  go_wp2_with fail
  refine (unhide Q2 _ (hE.on bel)).mono ?_
  rintro e v10 ⟨rfl, hb⟩
  replace r0 := r0.on' hb
  replace rt := rt.on' hb
  replace rb := rb.on' hb
  replace bel := Below.then bel hb
  clear rbc0 rbc1 rbc2 rbc3
  clear hb
  have r0c0 := r0.cell 0 _ rfl
  have r0c6 := r0.cell 6 _ rfl
  go_wp2_with fail
  go_ret
  exact ⟨rfl, bel⟩
set_option maxHeartbeats 8000000 in
set_option maxRecDepth 100000 in
theorem way_po_hi (w : World) (hE : Ic.Env w) (a0 : Mk) (w0 : a0.Wf) (a1 : Int) (w1 : (Lit.int .u8 a1).wf = true) (a2 : Int) (hk : a0.kind % 4 < 2) (ht : a1 % 6 < 2) (hp : 65535 < a2) :
    Calls Tryz.prog 8 #[a0.val, .int .u8 a1, .int .i64 a2] w fun e w' => e = .returned (.bool true) ∧ Below w.heap.size w w' := by
  obtain ⟨b0, b1⟩ := bounds_u8 w1
  have kr : a1.tmod 6 = a1 % 6 := Int.tmod_eq_emod_of_nonneg b0
  have kr2 : IntKind.u8.wrap (a1 % 6) = a1 % 6 := by rw [IntKind.wrap_u8]; omega
  obtain ⟨T, hT⟩ : ∃ T : Int, a1 % 6 = T := ⟨_, rfl⟩
  have T0 : 0 ≤ T := by omega
  have T1 : T ≤ 255 := by omega
  rw [hT] at kr kr2 ht
  have k4m : a0.kind.tmod 4 = a0.kind % 4 := Int.tmod_eq_emod_of_nonneg w0.kind.1
  have k4w : IntKind.u8.wrap (a0.kind % 4) = a0.kind % 4 := by rw [IntKind.wrap_u8]; omega
  obtain ⟨m, hm⟩ : ∃ m : Mk, (⟨a0.kind, a0.src, a0.dst, a0.sport, a0.dport, a0.flags, T, a0.body, a0.zero, a0.frm, a0.dest⟩ : Mk) = m := ⟨_, rfl⟩
  have wm : m.Wf := by rw [← hm]; exact ⟨w0.kind, w0.src, w0.dst, w0.sport, w0.dport, w0.flags, by show 0 ≤ T ∧ T ≤ 255; omega, w0.body, w0.frm, w0.dest⟩
  have hmk : m.kind % 4 < 2 := by rw [← hm]; exact hk
  have sz := (frame_size wm).2
  have mt : m.ttl = T := by rw [← hm]
  have i3 : prtB 3 = true := prt_in (by decide)
  have i4 : prtB 4 = true := prt_in (by decide)
  have ip : prtB a2 = false := prt_out (.inr hp)
  have FA := hide (fun u => frame_any m u wm)
  have P1 := hide (fun u h => plain_any (frameS m) ⟨1, 2, 3, 4⟩ u (by omega) (u32s 1 2 (by decide)) h)
  have P2 := hide (fun u h => plain_any (frameS m) ⟨1, 2, 3, a2⟩ u (by omega) (u32s 1 2 (by decide)) h)
  have Q1 := hide (fun u h => about_any (frameS m) 1 2 ⟨1, 2, 3, 4⟩ u (by omega) (u32s 1 2 (by decide)).1 (u32s 1 2 (by decide)).2 (u32s 1 2 (by decide)) h)
  have Q2 := hide (fun u h => about_any (frameS m) 1 2 ⟨1, 2, 3, a2⟩ u (by omega) (u32s 1 2 (by decide)).1 (u32s 1 2 (by decide)).2 (u32s 1 2 (by decide)) h)
  have E1 := err_plain wm hmk ⟨1, 2, 3, 4⟩ ⟨#[]⟩
  have E2 := err_plain wm hmk ⟨1, 2, 3, a2⟩ ⟨#[]⟩
  rw [mt, err_of i3 i4, if_pos ht, Ps.app_nil] at E1
  rw [mt, err_of' i3 ip, Ps.app_nil] at E2
  have D1 := (plain_no_about wm hmk ⟨1, 2, 3, 4⟩ 1 2 ⟨#[]⟩).1
  have D2 := (plain_no_about wm hmk ⟨1, 2, 3, a2⟩ 1 2 ⟨#[]⟩).1
  rw [Ps.app_nil] at D1 D2
  rw [E1] at P1
  rw [E2] at P2
  rw [D1] at Q1
  rw [D2] at Q2
  clear E1 E2 D1 D2
  generalize plainS (frameS m) ⟨1, 2, 3, 4⟩ = x1 at *
  generalize plainS (frameS m) ⟨1, 2, 3, a2⟩ = x2 at *
  generalize aboutS (frameS m) 1 2 ⟨1, 2, 3, 4⟩ = x3 at *
  generalize aboutS (frameS m) 1 2 ⟨1, 2, 3, a2⟩ = x4 at *
  generalize frameS m = F at *
  rw [← hm] at FA
  clear mt sz hmk wm hm i3 i4 ip
  have KE := hide (fun u h => examples_any u h)
  have r0 := row_new w a0.cells 25
  have bel := alloc_on' w (.cells a0.cells.toArray 25)
  go_enter Tryz.func8, Tryz.ntmps8
  have r0c0 := r0.cell 0 _ rfl
  have r0c1 := r0.cell 1 _ rfl
  have r0c2 := r0.cell 2 _ rfl
  have r0c3 := r0.cell 3 _ rfl
  have r0c4 := r0.cell 4 _ rfl
  have r0c5 := r0.cell 5 _ rfl
  have r0c6 := r0.cell 6 _ rfl
  have r0c7 := r0.cell 7 _ rfl
  have r0c8 := r0.cell 8 _ rfl
  have r0c9 := r0.cell 9 _ rfl
  have r0c10 := r0.cell 10 _ rfl
  go_wp2_with fail
  refine (unhide KE _ (hE.on bel)).mono ?_
  rintro e v1 ⟨rfl, hb⟩
  replace r0 := r0.on' hb
  replace bel := Below.then bel hb
  clear r0c0 r0c1 r0c2 r0c3 r0c4 r0c5 r0c6 r0c7 r0c8 r0c9 r0c10
  clear hb
  have k0c6 := r0.cell 6 _ rfl
  have sr0c2 := r0.cell 6 _ rfl
  have sr0f2 := r0.free 6
  replace r0 := r0.set 6 (.int .u8 T)
  replace bel := bel.setCell (p := ⟨w.heap.size, 6, none⟩) (show w.heap.size ≤ w.heap.size by omega) (.int .u8 T)
  obtain ⟨V2, eV2⟩ : ∃ V, v1.setCell ⟨w.heap.size, 6, none⟩ (.int .u8 T) = V := ⟨_, rfl⟩
  rw [eV2] at r0 bel
  replace r0 : Row V2 w.heap.size ([.int .u8 a0.kind, .int .u32 a0.src, .int .u32 a0.dst, .int .u16 a0.sport, .int .u16 a0.dport, .int .u8 a0.flags, .int .u8 T, .string a0.body, .bool a0.zero, .int .u32 a0.frm, .int .u32 a0.dest]) := r0
  have r0c0 := r0.cell 0 _ rfl
  have r0c1 := r0.cell 1 _ rfl
  have r0c2 := r0.cell 2 _ rfl
  have r0c3 := r0.cell 3 _ rfl
  have r0c4 := r0.cell 4 _ rfl
  have r0c5 := r0.cell 5 _ rfl
  have r0c6 := r0.cell 6 _ rfl
  have r0c7 := r0.cell 7 _ rfl
  have r0c8 := r0.cell 8 _ rfl
  have r0c9 := r0.cell 9 _ rfl
  have r0c10 := r0.cell 10 _ rfl
  go_wp2_with fail
  refine (unhide FA _).mono ?_
  rintro e v3 ⟨rfl, hb⟩
  replace r0 := r0.on' hb
  replace bel := Below.then bel hb
  clear k0c6 sr0c2 sr0f2 eV2 r0c0 r0c1 r0c2 r0c3 r0c4 r0c5 r0c6 r0c7 r0c8 r0c9 r0c10
  clear hb
  have lert := bel.size
  have ltr0rt := r0.lt
  have nn := alloc_on' v3 (.cells #[.int .u32 1, .int .u32 2, .int .i64 3, .int .i64 4] 27)
  have rt := row_new v3 [.int .u32 1, .int .u32 2, .int .i64 3, .int .i64 4] 27
  obtain ⟨V4, eV4⟩ : ∃ V, v3.alloc (.cells #[.int .u32 1, .int .u32 2, .int .i64 3, .int .i64 4] 27) = V := ⟨_, rfl⟩
  rw [eV4] at nn rt
  replace r0 := r0.on' nn
  replace bel := Below.then bel nn
  clear nn
  have rtc0 := rt.cell 0 _ rfl
  have rtc1 := rt.cell 1 _ rfl
  have rtc2 := rt.cell 2 _ rfl
  have rtc3 := rt.cell 3 _ rfl
  have lerb := bel.size
  have ltr0rb := r0.lt
  have ltrtrb := rt.lt
  have nn := alloc_on' V4 (.cells #[.int .u32 1, .int .u32 2, .int .i64 3, .int .i64 4] 27)
  have rb := row_new V4 [.int .u32 1, .int .u32 2, .int .i64 3, .int .i64 4] 27
  obtain ⟨V5, eV5⟩ : ∃ V, V4.alloc (.cells #[.int .u32 1, .int .u32 2, .int .i64 3, .int .i64 4] 27) = V := ⟨_, rfl⟩
  rw [eV5] at nn rb
  replace r0 := r0.on' nn
  replace rt := rt.on' nn
  replace bel := Below.then bel nn
  clear nn
  have rbc3 := rb.cell 3 _ rfl
  have srbc6 := rb.cell 3 _ rfl
  have srbf6 := rb.free 3
  replace r0 := r0.other (b := V4.heap.size) (by omega) 3 (.int .i64 a2)
  replace rt := rt.other (b := V4.heap.size) (by omega) 3 (.int .i64 a2)
  replace rb := rb.set 3 (.int .i64 a2)
  replace bel := bel.setCell (p := ⟨V4.heap.size, 3, none⟩) (show w.heap.size ≤ V4.heap.size by omega) (.int .i64 a2)
  obtain ⟨V6, eV6⟩ : ∃ V, V5.setCell ⟨V4.heap.size, 3, none⟩ (.int .i64 a2) = V := ⟨_, rfl⟩
  rw [eV6] at r0 rt rb bel
  replace rb : Row V6 V4.heap.size ([.int .u32 1, .int .u32 2, .int .i64 3, .int .i64 a2]) := rb
  have yt0 := rt.cell 0 _ rfl
  have yt1 := rt.cell 1 _ rfl
  have yt2 := rt.cell 2 _ rfl
  have yt3 := rt.cell 3 _ rfl
  go_wp2_with fail
  refine (unhide P1 _ (hE.on bel)).mono ?_
  rintro e v7 ⟨rfl, hb⟩
  replace r0 := r0.on' hb
  replace rt := rt.on' hb
  replace rb := rb.on' hb
  replace bel := Below.then bel hb
  clear eV4 rtc0 rtc1 rtc2 rtc3 eV5 rbc3 srbc6 srbf6 eV6 yt0 yt1 yt2 yt3
  clear hb
  have rtc0 := rt.cell 0 _ rfl
  have rtc1 := rt.cell 1 _ rfl
  have rtc2 := rt.cell 2 _ rfl
  have rtc3 := rt.cell 3 _ rfl
  go_wp2_with fail
  refine (unhide Q1 _ (hE.on bel)).mono ?_
  rintro e v8 ⟨rfl, hb⟩
  replace r0 := r0.on' hb
  replace rt := rt.on' hb
  replace rb := rb.on' hb
  replace bel := Below.then bel hb
  clear rtc0 rtc1 rtc2 rtc3
  clear hb
  have rbc0 := rb.cell 0 _ rfl
  have rbc1 := rb.cell 1 _ rfl
  have rbc2 := rb.cell 2 _ rfl
  have rbc3 := rb.cell 3 _ rfl
  go_wp2_with fail
  refine (unhide P2 _ (hE.on bel)).mono ?_
  rintro e v9 ⟨rfl, hb⟩
  replace r0 := r0.on' hb
  replace rt := rt.on' hb
  replace rb := rb.on' hb
  replace bel := Below.then bel hb
  clear rbc0 rbc1 rbc2 rbc3
  clear hb
  have rbc0 := rb.cell 0 _ rfl
  have rbc1 := rb.cell 1 _ rfl
  have rbc2 := rb.cell 2 _ rfl
  have rbc3 := rb.cell 3 _ rfl
  go_wp2_with fail
  refine (unhide Q2 _ (hE.on bel)).mono ?_
  rintro e v10 ⟨rfl, hb⟩
  replace r0 := r0.on' hb
  replace rt := rt.on' hb
  replace rb := rb.on' hb
  replace bel := Below.then bel hb
  clear rbc0 rbc1 rbc2 rbc3
  clear hb
  have r0c0 := r0.cell 0 _ rfl
  have r0c6 := r0.cell 6 _ rfl
  go_wp2_with fail
  go_ret
  exact ⟨rfl, bel⟩
set_option maxHeartbeats 8000000 in
set_option maxRecDepth 100000 in
theorem way_po_in (w : World) (hE : Ic.Env w) (a0 : Mk) (w0 : a0.Wf) (a1 : Int) (w1 : (Lit.int .u8 a1).wf = true) (a2 : Int) (hk : a0.kind % 4 < 2) (ht : a1 % 6 < 2) (hp : 0 ≤ a2 ∧ a2 ≤ 65535) :
    Calls Tryz.prog 8 #[a0.val, .int .u8 a1, .int .i64 a2] w fun e w' => e = .returned (.bool true) ∧ Below w.heap.size w w' := by
  obtain ⟨b0, b1⟩ := bounds_u8 w1
  have kr : a1.tmod 6 = a1 % 6 := Int.tmod_eq_emod_of_nonneg b0
  have kr2 : IntKind.u8.wrap (a1 % 6) = a1 % 6 := by rw [IntKind.wrap_u8]; omega
  obtain ⟨T, hT⟩ : ∃ T : Int, a1 % 6 = T := ⟨_, rfl⟩
  have T0 : 0 ≤ T := by omega
  have T1 : T ≤ 255 := by omega
  rw [hT] at kr kr2 ht
  have k4m : a0.kind.tmod 4 = a0.kind % 4 := Int.tmod_eq_emod_of_nonneg w0.kind.1
  have k4w : IntKind.u8.wrap (a0.kind % 4) = a0.kind % 4 := by rw [IntKind.wrap_u8]; omega
  obtain ⟨m, hm⟩ : ∃ m : Mk, (⟨a0.kind, a0.src, a0.dst, a0.sport, a0.dport, a0.flags, T, a0.body, a0.zero, a0.frm, a0.dest⟩ : Mk) = m := ⟨_, rfl⟩
  have wm : m.Wf := by rw [← hm]; exact ⟨w0.kind, w0.src, w0.dst, w0.sport, w0.dport, w0.flags, by show 0 ≤ T ∧ T ≤ 255; omega, w0.body, w0.frm, w0.dest⟩
  have hmk : m.kind % 4 < 2 := by rw [← hm]; exact hk
  have sz := (frame_size wm).2
  have mt : m.ttl = T := by rw [← hm]
  have i3 : prtB 3 = true := prt_in (by decide)
  have i4 : prtB 4 = true := prt_in (by decide)
  have ip : prtB a2 = true := prt_in hp
  have FA := hide (fun u => frame_any m u wm)
  have P1 := hide (fun u h => plain_any (frameS m) ⟨1, 2, 3, 4⟩ u (by omega) (u32s 1 2 (by decide)) h)
  have P2 := hide (fun u h => plain_any (frameS m) ⟨1, 2, 3, a2⟩ u (by omega) (u32s 1 2 (by decide)) h)
  have Q1 := hide (fun u h => about_any (frameS m) 1 2 ⟨1, 2, 3, 4⟩ u (by omega) (u32s 1 2 (by decide)).1 (u32s 1 2 (by decide)).2 (u32s 1 2 (by decide)) h)
  have Q2 := hide (fun u h => about_any (frameS m) 1 2 ⟨1, 2, 3, a2⟩ u (by omega) (u32s 1 2 (by decide)).1 (u32s 1 2 (by decide)).2 (u32s 1 2 (by decide)) h)
  have E1 := err_plain wm hmk ⟨1, 2, 3, 4⟩ ⟨#[]⟩
  have E2 := err_plain wm hmk ⟨1, 2, 3, a2⟩ ⟨#[]⟩
  rw [mt, err_of i3 i4, if_pos ht, Ps.app_nil] at E1
  rw [mt, err_of i3 ip, if_pos ht, Ps.app_nil] at E2
  have D1 := (plain_no_about wm hmk ⟨1, 2, 3, 4⟩ 1 2 ⟨#[]⟩).1
  have D2 := (plain_no_about wm hmk ⟨1, 2, 3, a2⟩ 1 2 ⟨#[]⟩).1
  rw [Ps.app_nil] at D1 D2
  rw [E1] at P1
  rw [E2] at P2
  rw [D1] at Q1
  rw [D2] at Q2
  clear E1 E2 D1 D2
  generalize plainS (frameS m) ⟨1, 2, 3, 4⟩ = x1 at *
  generalize plainS (frameS m) ⟨1, 2, 3, a2⟩ = x2 at *
  generalize aboutS (frameS m) 1 2 ⟨1, 2, 3, 4⟩ = x3 at *
  generalize aboutS (frameS m) 1 2 ⟨1, 2, 3, a2⟩ = x4 at *
  generalize frameS m = F at *
  rw [← hm] at FA
  clear mt sz hmk wm hm i3 i4 ip
  obtain ⟨q0, q1⟩ := hp
  have n1 : decide (a2 < 0) = false := by simp; omega
  have n2 : decide (65535 < a2) = false := by simp; omega
  have KE := hide (fun u h => examples_any u h)
  have r0 := row_new w a0.cells 25
  have bel := alloc_on' w (.cells a0.cells.toArray 25)
  go_enter Tryz.func8, Tryz.ntmps8
  have r0c0 := r0.cell 0 _ rfl
  have r0c1 := r0.cell 1 _ rfl
  have r0c2 := r0.cell 2 _ rfl
  have r0c3 := r0.cell 3 _ rfl
  have r0c4 := r0.cell 4 _ rfl
  have r0c5 := r0.cell 5 _ rfl
  have r0c6 := r0.cell 6 _ rfl
  have r0c7 := r0.cell 7 _ rfl
  have r0c8 := r0.cell 8 _ rfl
  have r0c9 := r0.cell 9 _ rfl
  have r0c10 := r0.cell 10 _ rfl
  go_wp2_with fail
  refine (unhide KE _ (hE.on bel)).mono ?_
  rintro e v1 ⟨rfl, hb⟩
  replace r0 := r0.on' hb
  replace bel := Below.then bel hb
  clear r0c0 r0c1 r0c2 r0c3 r0c4 r0c5 r0c6 r0c7 r0c8 r0c9 r0c10
  clear hb
  have k0c6 := r0.cell 6 _ rfl
  have sr0c2 := r0.cell 6 _ rfl
  have sr0f2 := r0.free 6
  replace r0 := r0.set 6 (.int .u8 T)
  replace bel := bel.setCell (p := ⟨w.heap.size, 6, none⟩) (show w.heap.size ≤ w.heap.size by omega) (.int .u8 T)
  obtain ⟨V2, eV2⟩ : ∃ V, v1.setCell ⟨w.heap.size, 6, none⟩ (.int .u8 T) = V := ⟨_, rfl⟩
  rw [eV2] at r0 bel
  replace r0 : Row V2 w.heap.size ([.int .u8 a0.kind, .int .u32 a0.src, .int .u32 a0.dst, .int .u16 a0.sport, .int .u16 a0.dport, .int .u8 a0.flags, .int .u8 T, .string a0.body, .bool a0.zero, .int .u32 a0.frm, .int .u32 a0.dest]) := r0
  have r0c0 := r0.cell 0 _ rfl
  have r0c1 := r0.cell 1 _ rfl
  have r0c2 := r0.cell 2 _ rfl
  have r0c3 := r0.cell 3 _ rfl
  have r0c4 := r0.cell 4 _ rfl
  have r0c5 := r0.cell 5 _ rfl
  have r0c6 := r0.cell 6 _ rfl
  have r0c7 := r0.cell 7 _ rfl
  have r0c8 := r0.cell 8 _ rfl
  have r0c9 := r0.cell 9 _ rfl
  have r0c10 := r0.cell 10 _ rfl
  go_wp2_with fail
  refine (unhide FA _).mono ?_
  rintro e v3 ⟨rfl, hb⟩
  replace r0 := r0.on' hb
  replace bel := Below.then bel hb
  clear k0c6 sr0c2 sr0f2 eV2 r0c0 r0c1 r0c2 r0c3 r0c4 r0c5 r0c6 r0c7 r0c8 r0c9 r0c10
  clear hb
  have lert := bel.size
  have ltr0rt := r0.lt
  have nn := alloc_on' v3 (.cells #[.int .u32 1, .int .u32 2, .int .i64 3, .int .i64 4] 27)
  have rt := row_new v3 [.int .u32 1, .int .u32 2, .int .i64 3, .int .i64 4] 27
  obtain ⟨V4, eV4⟩ : ∃ V, v3.alloc (.cells #[.int .u32 1, .int .u32 2, .int .i64 3, .int .i64 4] 27) = V := ⟨_, rfl⟩
  rw [eV4] at nn rt
  replace r0 := r0.on' nn
  replace bel := Below.then bel nn
  clear nn
  have rtc0 := rt.cell 0 _ rfl
  have rtc1 := rt.cell 1 _ rfl
  have rtc2 := rt.cell 2 _ rfl
  have rtc3 := rt.cell 3 _ rfl
  have lerb := bel.size
  have ltr0rb := r0.lt
  have ltrtrb := rt.lt
  have nn := alloc_on' V4 (.cells #[.int .u32 1, .int .u32 2, .int .i64 3, .int .i64 4] 27)
  have rb := row_new V4 [.int .u32 1, .int .u32 2, .int .i64 3, .int .i64 4] 27
  obtain ⟨V5, eV5⟩ : ∃ V, V4.alloc (.cells #[.int .u32 1, .int .u32 2, .int .i64 3, .int .i64 4] 27) = V := ⟨_, rfl⟩
  rw [eV5] at nn rb
  replace r0 := r0.on' nn
  replace rt := rt.on' nn
  replace bel := Below.then bel nn
  clear nn
  have rbc3 := rb.cell 3 _ rfl
  have srbc6 := rb.cell 3 _ rfl
  have srbf6 := rb.free 3
  replace r0 := r0.other (b := V4.heap.size) (by omega) 3 (.int .i64 a2)
  replace rt := rt.other (b := V4.heap.size) (by omega) 3 (.int .i64 a2)
  replace rb := rb.set 3 (.int .i64 a2)
  replace bel := bel.setCell (p := ⟨V4.heap.size, 3, none⟩) (show w.heap.size ≤ V4.heap.size by omega) (.int .i64 a2)
  obtain ⟨V6, eV6⟩ : ∃ V, V5.setCell ⟨V4.heap.size, 3, none⟩ (.int .i64 a2) = V := ⟨_, rfl⟩
  rw [eV6] at r0 rt rb bel
  replace rb : Row V6 V4.heap.size ([.int .u32 1, .int .u32 2, .int .i64 3, .int .i64 a2]) := rb
  have yt0 := rt.cell 0 _ rfl
  have yt1 := rt.cell 1 _ rfl
  have yt2 := rt.cell 2 _ rfl
  have yt3 := rt.cell 3 _ rfl
  go_wp2_with fail
  refine (unhide P1 _ (hE.on bel)).mono ?_
  rintro e v7 ⟨rfl, hb⟩
  replace r0 := r0.on' hb
  replace rt := rt.on' hb
  replace rb := rb.on' hb
  replace bel := Below.then bel hb
  clear eV4 rtc0 rtc1 rtc2 rtc3 eV5 rbc3 srbc6 srbf6 eV6 yt0 yt1 yt2 yt3
  clear hb
  have rtc0 := rt.cell 0 _ rfl
  have rtc1 := rt.cell 1 _ rfl
  have rtc2 := rt.cell 2 _ rfl
  have rtc3 := rt.cell 3 _ rfl
  go_wp2_with fail
  refine (unhide Q1 _ (hE.on bel)).mono ?_
  rintro e v8 ⟨rfl, hb⟩
  replace r0 := r0.on' hb
  replace rt := rt.on' hb
  replace rb := rb.on' hb
  replace bel := Below.then bel hb
  clear rtc0 rtc1 rtc2 rtc3
  clear hb
  have rbc0 := rb.cell 0 _ rfl
  have rbc1 := rb.cell 1 _ rfl
  have rbc2 := rb.cell 2 _ rfl
  have rbc3 := rb.cell 3 _ rfl
  go_wp2_with fail
  refine (unhide P2 _ (hE.on bel)).mono ?_
  rintro e v9 ⟨rfl, hb⟩
  replace r0 := r0.on' hb
  replace rt := rt.on' hb
  replace rb := rb.on' hb
  replace bel := Below.then bel hb
  clear rbc0 rbc1 rbc2 rbc3
  clear hb
  have rbc0 := rb.cell 0 _ rfl
  have rbc1 := rb.cell 1 _ rfl
  have rbc2 := rb.cell 2 _ rfl
  have rbc3 := rb.cell 3 _ rfl
  go_wp2_with fail
  refine (unhide Q2 _ (hE.on bel)).mono ?_
  rintro e v10 ⟨rfl, hb⟩
  replace r0 := r0.on' hb
  replace rt := rt.on' hb
  replace rb := rb.on' hb
  replace bel := Below.then bel hb
  clear rbc0 rbc1 rbc2 rbc3
  clear hb
  have r0c0 := r0.cell 0 _ rfl
  have r0c6 := r0.cell 6 _ rfl
  go_wp2_with fail
  go_ret
  exact ⟨rfl, bel⟩
set_option maxHeartbeats 8000000 in
set_option maxRecDepth 100000 in
theorem way_pn_lo (w : World) (hE : Ic.Env w) (a0 : Mk) (w0 : a0.Wf) (a1 : Int) (w1 : (Lit.int .u8 a1).wf = true) (a2 : Int) (hk : a0.kind % 4 < 2) (ht : ¬ a1 % 6 < 2) (hp : a2 < 0) :
    Calls Tryz.prog 8 #[a0.val, .int .u8 a1, .int .i64 a2] w fun e w' => e = .returned (.bool true) ∧ Below w.heap.size w w' := by
  obtain ⟨b0, b1⟩ := bounds_u8 w1
  have kr : a1.tmod 6 = a1 % 6 := Int.tmod_eq_emod_of_nonneg b0
  have kr2 : IntKind.u8.wrap (a1 % 6) = a1 % 6 := by rw [IntKind.wrap_u8]; omega
  obtain ⟨T, hT⟩ : ∃ T : Int, a1 % 6 = T := ⟨_, rfl⟩
  have T0 : 0 ≤ T := by omega
  have T1 : T ≤ 255 := by omega
  rw [hT] at kr kr2 ht
  have k4m : a0.kind.tmod 4 = a0.kind % 4 := Int.tmod_eq_emod_of_nonneg w0.kind.1
  have k4w : IntKind.u8.wrap (a0.kind % 4) = a0.kind % 4 := by rw [IntKind.wrap_u8]; omega
  obtain ⟨m, hm⟩ : ∃ m : Mk, (⟨a0.kind, a0.src, a0.dst, a0.sport, a0.dport, a0.flags, T, a0.body, a0.zero, a0.frm, a0.dest⟩ : Mk) = m := ⟨_, rfl⟩
  have wm : m.Wf := by rw [← hm]; exact ⟨w0.kind, w0.src, w0.dst, w0.sport, w0.dport, w0.flags, by show 0 ≤ T ∧ T ≤ 255; omega, w0.body, w0.frm, w0.dest⟩
  have hmk : m.kind % 4 < 2 := by rw [← hm]; exact hk
  have sz := (frame_size wm).2
  have mt : m.ttl = T := by rw [← hm]
  have i3 : prtB 3 = true := prt_in (by decide)
  have i4 : prtB 4 = true := prt_in (by decide)
  have ip : prtB a2 = false := prt_out (.inl hp)
  have FA := hide (fun u => frame_any m u wm)
  have P1 := hide (fun u h => plain_any (frameS m) ⟨1, 2, 3, 4⟩ u (by omega) (u32s 1 2 (by decide)) h)
  have P2 := hide (fun u h => plain_any (frameS m) ⟨1, 2, 3, a2⟩ u (by omega) (u32s 1 2 (by decide)) h)
  have Q1 := hide (fun u h => about_any (frameS m) 1 2 ⟨1, 2, 3, 4⟩ u (by omega) (u32s 1 2 (by decide)).1 (u32s 1 2 (by decide)).2 (u32s 1 2 (by decide)) h)
  have Q2 := hide (fun u h => about_any (frameS m) 1 2 ⟨1, 2, 3, a2⟩ u (by omega) (u32s 1 2 (by decide)).1 (u32s 1 2 (by decide)).2 (u32s 1 2 (by decide)) h)
  have E1 := err_plain wm hmk ⟨1, 2, 3, 4⟩ ⟨#[]⟩
  have E2 := err_plain wm hmk ⟨1, 2, 3, a2⟩ ⟨#[]⟩
  rw [mt, err_of i3 i4, if_neg ht, Ps.app_nil] at E1
  rw [mt, err_of' i3 ip, Ps.app_nil] at E2
  have D1 := (plain_no_about wm hmk ⟨1, 2, 3, 4⟩ 1 2 ⟨#[]⟩).1
  have D2 := (plain_no_about wm hmk ⟨1, 2, 3, a2⟩ 1 2 ⟨#[]⟩).1
  rw [Ps.app_nil] at D1 D2
  rw [E1] at P1
  rw [E2] at P2
  rw [D1] at Q1
  rw [D2] at Q2
  clear E1 E2 D1 D2
  generalize plainS (frameS m) ⟨1, 2, 3, 4⟩ = x1 at *
  generalize plainS (frameS m) ⟨1, 2, 3, a2⟩ = x2 at *
  generalize aboutS (frameS m) 1 2 ⟨1, 2, 3, 4⟩ = x3 at *
  generalize aboutS (frameS m) 1 2 ⟨1, 2, 3, a2⟩ = x4 at *
  generalize frameS m = F at *
  rw [← hm] at FA
  clear mt sz hmk wm hm i3 i4 ip
  have KE := hide (fun u h => examples_any u h)
  have r0 := row_new w a0.cells 25
  have bel := alloc_on' w (.cells a0.cells.toArray 25)
  go_enter Tryz.func8, Tryz.ntmps8
  have r0c0 := r0.cell 0 _ rfl
  have r0c1 := r0.cell 1 _ rfl
  have r0c2 := r0.cell 2 _ rfl
  have r0c3 := r0.cell 3 _ rfl
  have r0c4 := r0.cell 4 _ rfl
  have r0c5 := r0.cell 5 _ rfl
  have r0c6 := r0.cell 6 _ rfl
  have r0c7 := r0.cell 7 _ rfl
  have r0c8 := r0.cell 8 _ rfl
  have r0c9 := r0.cell 9 _ rfl
  have r0c10 := r0.cell 10 _ rfl
  go_wp2_with fail
  refine (unhide KE _ (hE.on bel)).mono ?_
  rintro e v1 ⟨rfl, hb⟩
  replace r0 := r0.on' hb
  replace bel := Below.then bel hb
  clear r0c0 r0c1 r0c2 r0c3 r0c4 r0c5 r0c6 r0c7 r0c8 r0c9 r0c10
  clear hb
  have k0c6 := r0.cell 6 _ rfl
  have sr0c2 := r0.cell 6 _ rfl
  have sr0f2 := r0.free 6
  replace r0 := r0.set 6 (.int .u8 T)
  replace bel := bel.setCell (p := ⟨w.heap.size, 6, none⟩) (show w.heap.size ≤ w.heap.size by omega) (.int .u8 T)
  obtain ⟨V2, eV2⟩ : ∃ V, v1.setCell ⟨w.heap.size, 6, none⟩ (.int .u8 T) = V := ⟨_, rfl⟩
  rw [eV2] at r0 bel
  replace r0 : Row V2 w.heap.size ([.int .u8 a0.kind, .int .u32 a0.src, .int .u32 a0.dst, .int .u16 a0.sport, .int .u16 a0.dport, .int .u8 a0.flags, .int .u8 T, .string a0.body, .bool a0.zero, .int .u32 a0.frm, .int .u32 a0.dest]) := r0
  have r0c0 := r0.cell 0 _ rfl
  have r0c1 := r0.cell 1 _ rfl
  have r0c2 := r0.cell 2 _ rfl
  have r0c3 := r0.cell 3 _ rfl
  have r0c4 := r0.cell 4 _ rfl
  have r0c5 := r0.cell 5 _ rfl
  have r0c6 := r0.cell 6 _ rfl
  have r0c7 := r0.cell 7 _ rfl
  have r0c8 := r0.cell 8 _ rfl
  have r0c9 := r0.cell 9 _ rfl
  have r0c10 := r0.cell 10 _ rfl
  go_wp2_with fail
  refine (unhide FA _).mono ?_
  rintro e v3 ⟨rfl, hb⟩
  replace r0 := r0.on' hb
  replace bel := Below.then bel hb
  clear k0c6 sr0c2 sr0f2 eV2 r0c0 r0c1 r0c2 r0c3 r0c4 r0c5 r0c6 r0c7 r0c8 r0c9 r0c10
  clear hb
  have lert := bel.size
  have ltr0rt := r0.lt
  have nn := alloc_on' v3 (.cells #[.int .u32 1, .int .u32 2, .int .i64 3, .int .i64 4] 27)
  have rt := row_new v3 [.int .u32 1, .int .u32 2, .int .i64 3, .int .i64 4] 27
  obtain ⟨V4, eV4⟩ : ∃ V, v3.alloc (.cells #[.int .u32 1, .int .u32 2, .int .i64 3, .int .i64 4] 27) = V := ⟨_, rfl⟩
  rw [eV4] at nn rt
  replace r0 := r0.on' nn
  replace bel := Below.then bel nn
  clear nn
  have rtc0 := rt.cell 0 _ rfl
  have rtc1 := rt.cell 1 _ rfl
  have rtc2 := rt.cell 2 _ rfl
  have rtc3 := rt.cell 3 _ rfl
  have lerb := bel.size
  have ltr0rb := r0.lt
  have ltrtrb := rt.lt
  have nn := alloc_on' V4 (.cells #[.int .u32 1, .int .u32 2, .int .i64 3, .int .i64 4] 27)
  have rb := row_new V4 [.int .u32 1, .int .u32 2, .int .i64 3, .int .i64 4] 27
  obtain ⟨V5, eV5⟩ : ∃ V, V4.alloc (.cells #[.int .u32 1, .int .u32 2, .int .i64 3, .int .i64 4] 27) = V := ⟨_, rfl⟩
  rw [eV5] at nn rb
  replace r0 := r0.on' nn
  replace rt := rt.on' nn
  replace bel := Below.then bel nn
  clear nn
  have rbc3 := rb.cell 3 _ rfl
  have srbc6 := rb.cell 3 _ rfl
  have srbf6 := rb.free 3
  replace r0 := r0.other (b := V4.heap.size) (by omega) 3 (.int .i64 a2)
  replace rt := rt.other (b := V4.heap.size) (by omega) 3 (.int .i64 a2)
  replace rb := rb.set 3 (.int .i64 a2)
  replace bel := bel.setCell (p := ⟨V4.heap.size, 3, none⟩) (show w.heap.size ≤ V4.heap.size by omega) (.int .i64 a2)
  obtain ⟨V6, eV6⟩ : ∃ V, V5.setCell ⟨V4.heap.size, 3, none⟩ (.int .i64 a2) = V := ⟨_, rfl⟩
  rw [eV6] at r0 rt rb bel
  replace rb : Row V6 V4.heap.size ([.int .u32 1, .int .u32 2, .int .i64 3, .int .i64 a2]) := rb
  have yt0 := rt.cell 0 _ rfl
  have yt1 := rt.cell 1 _ rfl
  have yt2 := rt.cell 2 _ rfl
  have yt3 := rt.cell 3 _ rfl
  go_wp2_with fail
  refine (unhide P1 _ (hE.on bel)).mono ?_
  rintro e v7 ⟨rfl, hb⟩
  replace r0 := r0.on' hb
  replace rt := rt.on' hb
  replace rb := rb.on' hb
  replace bel := Below.then bel hb
  clear eV4 rtc0 rtc1 rtc2 rtc3 eV5 rbc3 srbc6 srbf6 eV6 yt0 yt1 yt2 yt3
  clear hb
  have rtc0 := rt.cell 0 _ rfl
  have rtc1 := rt.cell 1 _ rfl
  have rtc2 := rt.cell 2 _ rfl
  have rtc3 := rt.cell 3 _ rfl
  go_wp2_with fail
  refine (unhide Q1 _ (hE.on bel)).mono ?_
  rintro e v8 ⟨rfl, hb⟩
  replace r0 := r0.on' hb
  replace rt := rt.on' hb
  replace rb := rb.on' hb
  replace bel := Below.then bel hb
  clear rtc0 rtc1 rtc2 rtc3
  clear hb
  have rbc0 := rb.cell 0 _ rfl
  have rbc1 := rb.cell 1 _ rfl
  have rbc2 := rb.cell 2 _ rfl
  have rbc3 := rb.cell 3 _ rfl
  go_wp2_with fail
  refine (unhide P2 _ (hE.on bel)).mono ?_
  rintro e v9 ⟨rfl, hb⟩
  replace r0 := r0.on' hb
  replace rt := rt.on' hb
  replace rb := rb.on' hb
  replace bel := Below.then bel hb
  clear rbc0 rbc1 rbc2 rbc3
  clear hb
  have rbc0 := rb.cell 0 _ rfl
  have rbc1 := rb.cell 1 _ rfl
  have rbc2 := rb.cell 2 _ rfl
  have rbc3 := rb.cell 3 _ rfl
  go_wp2_with fail
  refine (unhide Q2 _ (hE.on bel)).mono ?_
  rintro e v10 ⟨rfl, hb⟩
  replace r0 := r0.on' hb
  replace rt := rt.on' hb
  replace rb := rb.on' hb
  replace bel := Below.then bel hb
  clear rbc0 rbc1 rbc2 rbc3
  clear hb
  have r0c0 := r0.cell 0 _ rfl
  have r0c6 := r0.cell 6 _ rfl
  go_wp2_with fail
  go_ret
  exact ⟨rfl, bel⟩
set_option maxHeartbeats 8000000 in
set_option maxRecDepth 100000 in
theorem way_pn_hi (w : World) (hE : Ic.Env w) (a0 : Mk) (w0 : a0.Wf) (a1 : Int) (w1 : (Lit.int .u8 a1).wf = true) (a2 : Int) (hk : a0.kind % 4 < 2) (ht : ¬ a1 % 6 < 2) (hp : 65535 < a2) :
    Calls Tryz.prog 8 #[a0.val, .int .u8 a1, .int .i64 a2] w fun e w' => e = .returned (.bool true) ∧ Below w.heap.size w w' := by
  obtain ⟨b0, b1⟩ := bounds_u8 w1
  have kr : a1.tmod 6 = a1 % 6 := Int.tmod_eq_emod_of_nonneg b0
  have kr2 : IntKind.u8.wrap (a1 % 6) = a1 % 6 := by rw [IntKind.wrap_u8]; omega
  obtain ⟨T, hT⟩ : ∃ T : Int, a1 % 6 = T := ⟨_, rfl⟩
  have T0 : 0 ≤ T := by omega
  have T1 : T ≤ 255 := by omega
  rw [hT] at kr kr2 ht
  have k4m : a0.kind.tmod 4 = a0.kind % 4 := Int.tmod_eq_emod_of_nonneg w0.kind.1
  have k4w : IntKind.u8.wrap (a0.kind % 4) = a0.kind % 4 := by rw [IntKind.wrap_u8]; omega
  obtain ⟨m, hm⟩ : ∃ m : Mk, (⟨a0.kind, a0.src, a0.dst, a0.sport, a0.dport, a0.flags, T, a0.body, a0.zero, a0.frm, a0.dest⟩ : Mk) = m := ⟨_, rfl⟩
  have wm : m.Wf := by rw [← hm]; exact ⟨w0.kind, w0.src, w0.dst, w0.sport, w0.dport, w0.flags, by show 0 ≤ T ∧ T ≤ 255; omega, w0.body, w0.frm, w0.dest⟩
  have hmk : m.kind % 4 < 2 := by rw [← hm]; exact hk
  have sz := (frame_size wm).2
  have mt : m.ttl = T := by rw [← hm]
  have i3 : prtB 3 = true := prt_in (by decide)
  have i4 : prtB 4 = true := prt_in (by decide)
  have ip : prtB a2 = false := prt_out (.inr hp)
  have FA := hide (fun u => frame_any m u wm)
  have P1 := hide (fun u h => plain_any (frameS m) ⟨1, 2, 3, 4⟩ u (by omega) (u32s 1 2 (by decide)) h)
  have P2 := hide (fun u h => plain_any (frameS m) ⟨1, 2, 3, a2⟩ u (by omega) (u32s 1 2 (by decide)) h)
  have Q1 := hide (fun u h => about_any (frameS m) 1 2 ⟨1, 2, 3, 4⟩ u (by omega) (u32s 1 2 (by decide)).1 (u32s 1 2 (by decide)).2 (u32s 1 2 (by decide)) h)
  have Q2 := hide (fun u h => about_any (frameS m) 1 2 ⟨1, 2, 3, a2⟩ u (by omega) (u32s 1 2 (by decide)).1 (u32s 1 2 (by decide)).2 (u32s 1 2 (by decide)) h)
  have E1 := err_plain wm hmk ⟨1, 2, 3, 4⟩ ⟨#[]⟩
  have E2 := err_plain wm hmk ⟨1, 2, 3, a2⟩ ⟨#[]⟩
  rw [mt, err_of i3 i4, if_neg ht, Ps.app_nil] at E1
  rw [mt, err_of' i3 ip, Ps.app_nil] at E2
  have D1 := (plain_no_about wm hmk ⟨1, 2, 3, 4⟩ 1 2 ⟨#[]⟩).1
  have D2 := (plain_no_about wm hmk ⟨1, 2, 3, a2⟩ 1 2 ⟨#[]⟩).1
  rw [Ps.app_nil] at D1 D2
  rw [E1] at P1
  rw [E2] at P2
  rw [D1] at Q1
  rw [D2] at Q2
  clear E1 E2 D1 D2
  generalize plainS (frameS m) ⟨1, 2, 3, 4⟩ = x1 at *
  generalize plainS (frameS m) ⟨1, 2, 3, a2⟩ = x2 at *
  generalize aboutS (frameS m) 1 2 ⟨1, 2, 3, 4⟩ = x3 at *
  generalize aboutS (frameS m) 1 2 ⟨1, 2, 3, a2⟩ = x4 at *
  generalize frameS m = F at *
  rw [← hm] at FA
  clear mt sz hmk wm hm i3 i4 ip
  have KE := hide (fun u h => examples_any u h)
  have r0 := row_new w a0.cells 25
  have bel := alloc_on' w (.cells a0.cells.toArray 25)
  go_enter Tryz.func8, Tryz.ntmps8
  have r0c0 := r0.cell 0 _ rfl
  have r0c1 := r0.cell 1 _ rfl
  have r0c2 := r0.cell 2 _ rfl
  have r0c3 := r0.cell 3 _ rfl
  have r0c4 := r0.cell 4 _ rfl
  have r0c5 := r0.cell 5 _ rfl
  have r0c6 := r0.cell 6 _ rfl
  have r0c7 := r0.cell 7 _ rfl
  have r0c8 := r0.cell 8 _ rfl
  have r0c9 := r0.cell 9 _ rfl
  have r0c10 := r0.cell 10 _ rfl
  go_wp2_with fail
  refine (unhide KE _ (hE.on bel)).mono ?_
  rintro e v1 ⟨rfl, hb⟩
  replace r0 := r0.on' hb
  replace bel := Below.then bel hb
  clear r0c0 r0c1 r0c2 r0c3 r0c4 r0c5 r0c6 r0c7 r0c8 r0c9 r0c10
  clear hb
  have k0c6 := r0.cell 6 _ rfl
  have sr0c2 := r0.cell 6 _ rfl
  have sr0f2 := r0.free 6
  replace r0 := r0.set 6 (.int .u8 T)
  replace bel := bel.setCell (p := ⟨w.heap.size, 6, none⟩) (show w.heap.size ≤ w.heap.size by omega) (.int .u8 T)
  obtain ⟨V2, eV2⟩ : ∃ V, v1.setCell ⟨w.heap.size, 6, none⟩ (.int .u8 T) = V := ⟨_, rfl⟩
  rw [eV2] at r0 bel
  replace r0 : Row V2 w.heap.size ([.int .u8 a0.kind, .int .u32 a0.src, .int .u32 a0.dst, .int .u16 a0.sport, .int .u16 a0.dport, .int .u8 a0.flags, .int .u8 T, .string a0.body, .bool a0.zero, .int .u32 a0.frm, .int .u32 a0.dest]) := r0
  have r0c0 := r0.cell 0 _ rfl
  have r0c1 := r0.cell 1 _ rfl
  have r0c2 := r0.cell 2 _ rfl
  have r0c3 := r0.cell 3 _ rfl
  have r0c4 := r0.cell 4 _ rfl
  have r0c5 := r0.cell 5 _ rfl
  have r0c6 := r0.cell 6 _ rfl
  have r0c7 := r0.cell 7 _ rfl
  have r0c8 := r0.cell 8 _ rfl
  have r0c9 := r0.cell 9 _ rfl
  have r0c10 := r0.cell 10 _ rfl
  go_wp2_with fail
  refine (unhide FA _).mono ?_
  rintro e v3 ⟨rfl, hb⟩
  replace r0 := r0.on' hb
  replace bel := Below.then bel hb
  clear k0c6 sr0c2 sr0f2 eV2 r0c0 r0c1 r0c2 r0c3 r0c4 r0c5 r0c6 r0c7 r0c8 r0c9 r0c10
  clear hb
  have lert := bel.size
  have ltr0rt := r0.lt
  have nn := alloc_on' v3 (.cells #[.int .u32 1, .int .u32 2, .int .i64 3, .int .i64 4] 27)
  have rt := row_new v3 [.int .u32 1, .int .u32 2, .int .i64 3, .int .i64 4] 27
  obtain ⟨V4, eV4⟩ : ∃ V, v3.alloc (.cells #[.int .u32 1, .int .u32 2, .int .i64 3, .int .i64 4] 27) = V := ⟨_, rfl⟩
  rw [eV4] at nn rt
  replace r0 := r0.on' nn
  replace bel := Below.then bel nn
  clear nn
  have rtc0 := rt.cell 0 _ rfl
  have rtc1 := rt.cell 1 _ rfl
  have rtc2 := rt.cell 2 _ rfl
  have rtc3 := rt.cell 3 _ rfl
  have lerb := bel.size
  have ltr0rb := r0.lt
  have ltrtrb := rt.lt
  have nn := alloc_on' V4 (.cells #[.int .u32 1, .int .u32 2, .int .i64 3, .int .i64 4] 27)
  have rb := row_new V4 [.int .u32 1, .int .u32 2, .int .i64 3, .int .i64 4] 27
  obtain ⟨V5, eV5⟩ : ∃ V, V4.alloc (.cells #[.int .u32 1, .int .u32 2, .int .i64 3, .int .i64 4] 27) = V := ⟨_, rfl⟩
  rw [eV5] at nn rb
  replace r0 := r0.on' nn
  replace rt := rt.on' nn
  replace bel := Below.then bel nn
  clear nn
  have rbc3 := rb.cell 3 _ rfl
  have srbc6 := rb.cell 3 _ rfl
  have srbf6 := rb.free 3
  replace r0 := r0.other (b := V4.heap.size) (by omega) 3 (.int .i64 a2)
  replace rt := rt.other (b := V4.heap.size) (by omega) 3 (.int .i64 a2)
  replace rb := rb.set 3 (.int .i64 a2)
  replace bel := bel.setCell (p := ⟨V4.heap.size, 3, none⟩) (show w.heap.size ≤ V4.heap.size by omega) (.int .i64 a2)
  obtain ⟨V6, eV6⟩ : ∃ V, V5.setCell ⟨V4.heap.size, 3, none⟩ (.int .i64 a2) = V := ⟨_, rfl⟩
  rw [eV6] at r0 rt rb bel
  replace rb : Row V6 V4.heap.size ([.int .u32 1, .int .u32 2, .int .i64 3, .int .i64 a2]) := rb
  have yt0 := rt.cell 0 _ rfl
  have yt1 := rt.cell 1 _ rfl
  have yt2 := rt.cell 2 _ rfl
  have yt3 := rt.cell 3 _ rfl
  go_wp2_with fail
  refine (unhide P1 _ (hE.on bel)).mono ?_
  rintro e v7 ⟨rfl, hb⟩
  replace r0 := r0.on' hb
  replace rt := rt.on' hb
  replace rb := rb.on' hb
  replace bel := Below.then bel hb
  clear eV4 rtc0 rtc1 rtc2 rtc3 eV5 rbc3 srbc6 srbf6 eV6 yt0 yt1 yt2 yt3
  clear hb
  have rtc0 := rt.cell 0 _ rfl
  have rtc1 := rt.cell 1 _ rfl
  have rtc2 := rt.cell 2 _ rfl
  have rtc3 := rt.cell 3 _ rfl
  go_wp2_with fail
  refine (unhide Q1 _ (hE.on bel)).mono ?_
  rintro e v8 ⟨rfl, hb⟩
  replace r0 := r0.on' hb
  replace rt := rt.on' hb
  replace rb := rb.on' hb
  replace bel := Below.then bel hb
  clear rtc0 rtc1 rtc2 rtc3
  clear hb
  have rbc0 := rb.cell 0 _ rfl
  have rbc1 := rb.cell 1 _ rfl
  have rbc2 := rb.cell 2 _ rfl
  have rbc3 := rb.cell 3 _ rfl
  go_wp2_with fail
  refine (unhide P2 _ (hE.on bel)).mono ?_
  rintro e v9 ⟨rfl, hb⟩
  replace r0 := r0.on' hb
  replace rt := rt.on' hb
  replace rb := rb.on' hb
  replace bel := Below.then bel hb
  clear rbc0 rbc1 rbc2 rbc3
  clear hb
  have rbc0 := rb.cell 0 _ rfl
  have rbc1 := rb.cell 1 _ rfl
  have rbc2 := rb.cell 2 _ rfl
  have rbc3 := rb.cell 3 _ rfl
  go_wp2_with fail
  refine (unhide Q2 _ (hE.on bel)).mono ?_
  rintro e v10 ⟨rfl, hb⟩
  replace r0 := r0.on' hb
  replace rt := rt.on' hb
  replace rb := rb.on' hb
  replace bel := Below.then bel hb
  clear rbc0 rbc1 rbc2 rbc3
  clear hb
  have r0c0 := r0.cell 0 _ rfl
  have r0c6 := r0.cell 6 _ rfl
  go_wp2_with fail
  go_ret
  exact ⟨rfl, bel⟩
set_option maxHeartbeats 8000000 in
set_option maxRecDepth 100000 in
theorem way_pn_in (w : World) (hE : Ic.Env w) (a0 : Mk) (w0 : a0.Wf) (a1 : Int) (w1 : (Lit.int .u8 a1).wf = true) (a2 : Int) (hk : a0.kind % 4 < 2) (ht : ¬ a1 % 6 < 2) (hp : 0 ≤ a2 ∧ a2 ≤ 65535) :
    Calls Tryz.prog 8 #[a0.val, .int .u8 a1, .int .i64 a2] w fun e w' => e = .returned (.bool true) ∧ Below w.heap.size w w' := by
  obtain ⟨b0, b1⟩ := bounds_u8 w1
  have kr : a1.tmod 6 = a1 % 6 := Int.tmod_eq_emod_of_nonneg b0
  have kr2 : IntKind.u8.wrap (a1 % 6) = a1 % 6 := by rw [IntKind.wrap_u8]; omega
  obtain ⟨T, hT⟩ : ∃ T : Int, a1 % 6 = T := ⟨_, rfl⟩
  have T0 : 0 ≤ T := by omega
  have T1 : T ≤ 255 := by omega
  rw [hT] at kr kr2 ht
  have k4m : a0.kind.tmod 4 = a0.kind % 4 := Int.tmod_eq_emod_of_nonneg w0.kind.1
  have k4w : IntKind.u8.wrap (a0.kind % 4) = a0.kind % 4 := by rw [IntKind.wrap_u8]; omega
  obtain ⟨m, hm⟩ : ∃ m : Mk, (⟨a0.kind, a0.src, a0.dst, a0.sport, a0.dport, a0.flags, T, a0.body, a0.zero, a0.frm, a0.dest⟩ : Mk) = m := ⟨_, rfl⟩
  have wm : m.Wf := by rw [← hm]; exact ⟨w0.kind, w0.src, w0.dst, w0.sport, w0.dport, w0.flags, by show 0 ≤ T ∧ T ≤ 255; omega, w0.body, w0.frm, w0.dest⟩
  have hmk : m.kind % 4 < 2 := by rw [← hm]; exact hk
  have sz := (frame_size wm).2
  have mt : m.ttl = T := by rw [← hm]
  have i3 : prtB 3 = true := prt_in (by decide)
  have i4 : prtB 4 = true := prt_in (by decide)
  have ip : prtB a2 = true := prt_in hp
  have FA := hide (fun u => frame_any m u wm)
  have P1 := hide (fun u h => plain_any (frameS m) ⟨1, 2, 3, 4⟩ u (by omega) (u32s 1 2 (by decide)) h)
  have P2 := hide (fun u h => plain_any (frameS m) ⟨1, 2, 3, a2⟩ u (by omega) (u32s 1 2 (by decide)) h)
  have Q1 := hide (fun u h => about_any (frameS m) 1 2 ⟨1, 2, 3, 4⟩ u (by omega) (u32s 1 2 (by decide)).1 (u32s 1 2 (by decide)).2 (u32s 1 2 (by decide)) h)
  have Q2 := hide (fun u h => about_any (frameS m) 1 2 ⟨1, 2, 3, a2⟩ u (by omega) (u32s 1 2 (by decide)).1 (u32s 1 2 (by decide)).2 (u32s 1 2 (by decide)) h)
  have E1 := err_plain wm hmk ⟨1, 2, 3, 4⟩ ⟨#[]⟩
  have E2 := err_plain wm hmk ⟨1, 2, 3, a2⟩ ⟨#[]⟩
  rw [mt, err_of i3 i4, if_neg ht, Ps.app_nil] at E1
  rw [mt, err_of i3 ip, if_neg ht, Ps.app_nil] at E2
  have D1 := (plain_no_about wm hmk ⟨1, 2, 3, 4⟩ 1 2 ⟨#[]⟩).1
  have D2 := (plain_no_about wm hmk ⟨1, 2, 3, a2⟩ 1 2 ⟨#[]⟩).1
  rw [Ps.app_nil] at D1 D2
  rw [E1] at P1
  rw [E2] at P2
  rw [D1] at Q1
  rw [D2] at Q2
  clear E1 E2 D1 D2
  generalize plainS (frameS m) ⟨1, 2, 3, 4⟩ = x1 at *
  generalize plainS (frameS m) ⟨1, 2, 3, a2⟩ = x2 at *
  generalize aboutS (frameS m) 1 2 ⟨1, 2, 3, 4⟩ = x3 at *
  generalize aboutS (frameS m) 1 2 ⟨1, 2, 3, a2⟩ = x4 at *
  generalize frameS m = F at *
  rw [← hm] at FA
  clear mt sz hmk wm hm i3 i4 ip
  obtain ⟨q0, q1⟩ := hp
  have n1 : decide (a2 < 0) = false := by simp; omega
  have n2 : decide (65535 < a2) = false := by simp; omega
  have KE := hide (fun u h => examples_any u h)
  have r0 := row_new w a0.cells 25
  have bel := alloc_on' w (.cells a0.cells.toArray 25)
  go_enter Tryz.func8, Tryz.ntmps8
  have r0c0 := r0.cell 0 _ rfl
  have r0c1 := r0.cell 1 _ rfl
  have r0c2 := r0.cell 2 _ rfl
  have r0c3 := r0.cell 3 _ rfl
  have r0c4 := r0.cell 4 _ rfl
  have r0c5 := r0.cell 5 _ rfl
  have r0c6 := r0.cell 6 _ rfl
  have r0c7 := r0.cell 7 _ rfl
  have r0c8 := r0.cell 8 _ rfl
  have r0c9 := r0.cell 9 _ rfl
  have r0c10 := r0.cell 10 _ rfl
  go_wp2_with fail
  refine (unhide KE _ (hE.on bel)).mono ?_
  rintro e v1 ⟨rfl, hb⟩
  replace r0 := r0.on' hb
  replace bel := Below.then bel hb
  clear r0c0 r0c1 r0c2 r0c3 r0c4 r0c5 r0c6 r0c7 r0c8 r0c9 r0c10
  clear hb
  have k0c6 := r0.cell 6 _ rfl
  have sr0c2 := r0.cell 6 _ rfl
  have sr0f2 := r0.free 6
  replace r0 := r0.set 6 (.int .u8 T)
  replace bel := bel.setCell (p := ⟨w.heap.size, 6, none⟩) (show w.heap.size ≤ w.heap.size by omega) (.int .u8 T)
  obtain ⟨V2, eV2⟩ : ∃ V, v1.setCell ⟨w.heap.size, 6, none⟩ (.int .u8 T) = V := ⟨_, rfl⟩
  rw [eV2] at r0 bel
  replace r0 : Row V2 w.heap.size ([.int .u8 a0.kind, .int .u32 a0.src, .int .u32 a0.dst, .int .u16 a0.sport, .int .u16 a0.dport, .int .u8 a0.flags, .int .u8 T, .string a0.body, .bool a0.zero, .int .u32 a0.frm, .int .u32 a0.dest]) := r0
  have r0c0 := r0.cell 0 _ rfl
  have r0c1 := r0.cell 1 _ rfl
  have r0c2 := r0.cell 2 _ rfl
  have r0c3 := r0.cell 3 _ rfl
  have r0c4 := r0.cell 4 _ rfl
  have r0c5 := r0.cell 5 _ rfl
  have r0c6 := r0.cell 6 _ rfl
  have r0c7 := r0.cell 7 _ rfl
  have r0c8 := r0.cell 8 _ rfl
  have r0c9 := r0.cell 9 _ rfl
  have r0c10 := r0.cell 10 _ rfl
  go_wp2_with fail
  refine (unhide FA _).mono ?_
  rintro e v3 ⟨rfl, hb⟩
  replace r0 := r0.on' hb
  replace bel := Below.then bel hb
  clear k0c6 sr0c2 sr0f2 eV2 r0c0 r0c1 r0c2 r0c3 r0c4 r0c5 r0c6 r0c7 r0c8 r0c9 r0c10
  clear hb
  have lert := bel.size
  have ltr0rt := r0.lt
  have nn := alloc_on' v3 (.cells #[.int .u32 1, .int .u32 2, .int .i64 3, .int .i64 4] 27)
  have rt := row_new v3 [.int .u32 1, .int .u32 2, .int .i64 3, .int .i64 4] 27
  obtain ⟨V4, eV4⟩ : ∃ V, v3.alloc (.cells #[.int .u32 1, .int .u32 2, .int .i64 3, .int .i64 4] 27) = V := ⟨_, rfl⟩
  rw [eV4] at nn rt
  replace r0 := r0.on' nn
  replace bel := Below.then bel nn
  clear nn
  have rtc0 := rt.cell 0 _ rfl
  have rtc1 := rt.cell 1 _ rfl
  have rtc2 := rt.cell 2 _ rfl
  have rtc3 := rt.cell 3 _ rfl
  have lerb := bel.size
  have ltr0rb := r0.lt
  have ltrtrb := rt.lt
  have nn := alloc_on' V4 (.cells #[.int .u32 1, .int .u32 2, .int .i64 3, .int .i64 4] 27)
  have rb := row_new V4 [.int .u32 1, .int .u32 2, .int .i64 3, .int .i64 4] 27
  obtain ⟨V5, eV5⟩ : ∃ V, V4.alloc (.cells #[.int .u32 1, .int .u32 2, .int .i64 3, .int .i64 4] 27) = V := ⟨_, rfl⟩
  rw [eV5] at nn rb
  replace r0 := r0.on' nn
  replace rt := rt.on' nn
  replace bel := Below.then bel nn
  clear nn
  have rbc3 := rb.cell 3 _ rfl
  have srbc6 := rb.cell 3 _ rfl
  have srbf6 := rb.free 3
  replace r0 := r0.other (b := V4.heap.size) (by omega) 3 (.int .i64 a2)
  replace rt := rt.other (b := V4.heap.size) (by omega) 3 (.int .i64 a2)
  replace rb := rb.set 3 (.int .i64 a2)
  replace bel := bel.setCell (p := ⟨V4.heap.size, 3, none⟩) (show w.heap.size ≤ V4.heap.size by omega) (.int .i64 a2)
  obtain ⟨V6, eV6⟩ : ∃ V, V5.setCell ⟨V4.heap.size, 3, none⟩ (.int .i64 a2) = V := ⟨_, rfl⟩
  rw [eV6] at r0 rt rb bel
  replace rb : Row V6 V4.heap.size ([.int .u32 1, .int .u32 2, .int .i64 3, .int .i64 a2]) := rb
  have yt0 := rt.cell 0 _ rfl
  have yt1 := rt.cell 1 _ rfl
  have yt2 := rt.cell 2 _ rfl
  have yt3 := rt.cell 3 _ rfl
  go_wp2_with fail
  refine (unhide P1 _ (hE.on bel)).mono ?_
  rintro e v7 ⟨rfl, hb⟩
  replace r0 := r0.on' hb
  replace rt := rt.on' hb
  replace rb := rb.on' hb
  replace bel := Below.then bel hb
  clear eV4 rtc0 rtc1 rtc2 rtc3 eV5 rbc3 srbc6 srbf6 eV6 yt0 yt1 yt2 yt3
  clear hb
  have rtc0 := rt.cell 0 _ rfl
  have rtc1 := rt.cell 1 _ rfl
  have rtc2 := rt.cell 2 _ rfl
  have rtc3 := rt.cell 3 _ rfl
  go_wp2_with fail
  refine (unhide Q1 _ (hE.on bel)).mono ?_
  rintro e v8 ⟨rfl, hb⟩
  replace r0 := r0.on' hb
  replace rt := rt.on' hb
  replace rb := rb.on' hb
  replace bel := Below.then bel hb
  clear rtc0 rtc1 rtc2 rtc3
  clear hb
  have rbc0 := rb.cell 0 _ rfl
  have rbc1 := rb.cell 1 _ rfl
  have rbc2 := rb.cell 2 _ rfl
  have rbc3 := rb.cell 3 _ rfl
  go_wp2_with fail
  refine (unhide P2 _ (hE.on bel)).mono ?_
  rintro e v9 ⟨rfl, hb⟩
  replace r0 := r0.on' hb
  replace rt := rt.on' hb
  replace rb := rb.on' hb
  replace bel := Below.then bel hb
  clear rbc0 rbc1 rbc2 rbc3
  clear hb
  have rbc0 := rb.cell 0 _ rfl
  have rbc1 := rb.cell 1 _ rfl
  have rbc2 := rb.cell 2 _ rfl
  have rbc3 := rb.cell 3 _ rfl
  go_wp2_with fail
  refine (unhide Q2 _ (hE.on bel)).mono ?_
  rintro e v10 ⟨rfl, hb⟩
  replace r0 := r0.on' hb
  replace rt := rt.on' hb
  replace rb := rb.on' hb
  replace bel := Below.then bel hb
  clear rbc0 rbc1 rbc2 rbc3
  clear hb
  have r0c0 := r0.cell 0 _ rfl
  have r0c6 := r0.cell 6 _ rfl
  go_wp2_with fail
  go_ret
  exact ⟨rfl, bel⟩
set_option maxHeartbeats 8000000 in
set_option maxRecDepth 100000 in
theorem way_ao_lo (w : World) (hE : Ic.Env w) (a0 : Mk) (w0 : a0.Wf) (a1 : Int) (w1 : (Lit.int .u8 a1).wf = true) (a2 : Int) (hk : ¬ a0.kind % 4 < 2) (ht : a1 % 6 < 2) (hp : a2 < 0) :
    Calls Tryz.prog 8 #[a0.val, .int .u8 a1, .int .i64 a2] w fun e w' => e = .returned (.bool true) ∧ Below w.heap.size w w' := by
  obtain ⟨b0, b1⟩ := bounds_u8 w1
  have kr : a1.tmod 6 = a1 % 6 := Int.tmod_eq_emod_of_nonneg b0
  have kr2 : IntKind.u8.wrap (a1 % 6) = a1 % 6 := by rw [IntKind.wrap_u8]; omega
  obtain ⟨T, hT⟩ : ∃ T : Int, a1 % 6 = T := ⟨_, rfl⟩
  have T0 : 0 ≤ T := by omega
  have T1 : T ≤ 255 := by omega
  rw [hT] at kr kr2 ht
  have k4m : a0.kind.tmod 4 = a0.kind % 4 := Int.tmod_eq_emod_of_nonneg w0.kind.1
  have k4w : IntKind.u8.wrap (a0.kind % 4) = a0.kind % 4 := by rw [IntKind.wrap_u8]; omega
  obtain ⟨m, hm⟩ : ∃ m : Mk, (⟨a0.kind, a0.src, a0.dst, a0.sport, a0.dport, a0.flags, T, a0.body, a0.zero, a0.frm, a0.dest⟩ : Mk) = m := ⟨_, rfl⟩
  have wm : m.Wf := by rw [← hm]; exact ⟨w0.kind, w0.src, w0.dst, w0.sport, w0.dport, w0.flags, by show 0 ≤ T ∧ T ≤ 255; omega, w0.body, w0.frm, w0.dest⟩
  have hmk : ¬ m.kind % 4 < 2 := by rw [← hm]; exact hk
  have sz := (frame_size wm).2
  have mt : m.ttl = T := by rw [← hm]
  have i3 : prtB 3 = true := prt_in (by decide)
  have i4 : prtB 4 = true := prt_in (by decide)
  have ip : prtB a2 = false := prt_out (.inl hp)
  have FA := hide (fun u => frame_any m u wm)
  have P1 := hide (fun u h => plain_any (frameS m) ⟨1, 2, 3, 4⟩ u (by omega) (u32s 1 2 (by decide)) h)
  have P2 := hide (fun u h => plain_any (frameS m) ⟨1, 2, 3, a2⟩ u (by omega) (u32s 1 2 (by decide)) h)
  have Q1 := hide (fun u h => about_any (frameS m) 1 2 ⟨1, 2, 3, 4⟩ u (by omega) (u32s 1 2 (by decide)).1 (u32s 1 2 (by decide)).2 (u32s 1 2 (by decide)) h)
  have Q2 := hide (fun u h => about_any (frameS m) 1 2 ⟨1, 2, 3, a2⟩ u (by omega) (u32s 1 2 (by decide)).1 (u32s 1 2 (by decide)).2 (u32s 1 2 (by decide)) h)
  have E1 := err_about wm hmk ⟨1, 2, 3, 4⟩ ⟨#[]⟩
  have E2 := err_about wm hmk ⟨1, 2, 3, a2⟩ ⟨#[]⟩
  rw [mt, err_of i3 i4, if_pos ht, Ps.app_nil] at E1
  rw [mt, err_of' i3 ip, Ps.app_nil] at E2
  have D1 := (about_no_plain wm hmk ⟨1, 2, 3, 4⟩ ⟨#[]⟩).1
  have D2 := (about_no_plain wm hmk ⟨1, 2, 3, a2⟩ ⟨#[]⟩).1
  rw [Ps.app_nil] at D1 D2
  rw [E1] at Q1
  rw [E2] at Q2
  rw [D1] at P1
  rw [D2] at P2
  clear E1 E2 D1 D2
  generalize plainS (frameS m) ⟨1, 2, 3, 4⟩ = x1 at *
  generalize plainS (frameS m) ⟨1, 2, 3, a2⟩ = x2 at *
  generalize aboutS (frameS m) 1 2 ⟨1, 2, 3, 4⟩ = x3 at *
  generalize aboutS (frameS m) 1 2 ⟨1, 2, 3, a2⟩ = x4 at *
  generalize frameS m = F at *
  rw [← hm] at FA
  clear mt sz hmk wm hm i3 i4 ip
  have KE := hide (fun u h => examples_any u h)
  have r0 := row_new w a0.cells 25
  have bel := alloc_on' w (.cells a0.cells.toArray 25)
  go_enter Tryz.func8, Tryz.ntmps8
  have r0c0 := r0.cell 0 _ rfl
  have r0c1 := r0.cell 1 _ rfl
  have r0c2 := r0.cell 2 _ rfl
  have r0c3 := r0.cell 3 _ rfl
  have r0c4 := r0.cell 4 _ rfl
  have r0c5 := r0.cell 5 _ rfl
  have r0c6 := r0.cell 6 _ rfl
  have r0c7 := r0.cell 7 _ rfl
  have r0c8 := r0.cell 8 _ rfl
  have r0c9 := r0.cell 9 _ rfl
  have r0c10 := r0.cell 10 _ rfl
  go_wp2_with fail
  refine (unhide KE _ (hE.on bel)).mono ?_
  rintro e v1 ⟨rfl, hb⟩
  replace r0 := r0.on' hb
  replace bel := Below.then bel hb
  clear r0c0 r0c1 r0c2 r0c3 r0c4 r0c5 r0c6 r0c7 r0c8 r0c9 r0c10
  clear hb
  have k0c6 := r0.cell 6 _ rfl
  have sr0c2 := r0.cell 6 _ rfl
  have sr0f2 := r0.free 6
  replace r0 := r0.set 6 (.int .u8 T)
  replace bel := bel.setCell (p := ⟨w.heap.size, 6, none⟩) (show w.heap.size ≤ w.heap.size by omega) (.int .u8 T)
  obtain ⟨V2, eV2⟩ : ∃ V, v1.setCell ⟨w.heap.size, 6, none⟩ (.int .u8 T) = V := ⟨_, rfl⟩
  rw [eV2] at r0 bel
  replace r0 : Row V2 w.heap.size ([.int .u8 a0.kind, .int .u32 a0.src, .int .u32 a0.dst, .int .u16 a0.sport, .int .u16 a0.dport, .int .u8 a0.flags, .int .u8 T, .string a0.body, .bool a0.zero, .int .u32 a0.frm, .int .u32 a0.dest]) := r0
  have r0c0 := r0.cell 0 _ rfl
  have r0c1 := r0.cell 1 _ rfl
  have r0c2 := r0.cell 2 _ rfl
  have r0c3 := r0.cell 3 _ rfl
  have r0c4 := r0.cell 4 _ rfl
  have r0c5 := r0.cell 5 _ rfl
  have r0c6 := r0.cell 6 _ rfl
  have r0c7 := r0.cell 7 _ rfl
  have r0c8 := r0.cell 8 _ rfl
  have r0c9 := r0.cell 9 _ rfl
  have r0c10 := r0.cell 10 _ rfl
  go_wp2_with fail
  refine (unhide FA _).mono ?_
  rintro e v3 ⟨rfl, hb⟩
  replace r0 := r0.on' hb
  replace bel := Below.then bel hb
  clear k0c6 sr0c2 sr0f2 eV2 r0c0 r0c1 r0c2 r0c3 r0c4 r0c5 r0c6 r0c7 r0c8 r0c9 r0c10
  clear hb
  have lert := bel.size
  have ltr0rt := r0.lt
  have nn := alloc_on' v3 (.cells #[.int .u32 1, .int .u32 2, .int .i64 3, .int .i64 4] 27)
  have rt := row_new v3 [.int .u32 1, .int .u32 2, .int .i64 3, .int .i64 4] 27
  obtain ⟨V4, eV4⟩ : ∃ V, v3.alloc (.cells #[.int .u32 1, .int .u32 2, .int .i64 3, .int .i64 4] 27) = V := ⟨_, rfl⟩
  rw [eV4] at nn rt
  replace r0 := r0.on' nn
  replace bel := Below.then bel nn
  clear nn
  have rtc0 := rt.cell 0 _ rfl
  have rtc1 := rt.cell 1 _ rfl
  have rtc2 := rt.cell 2 _ rfl
  have rtc3 := rt.cell 3 _ rfl
  have lerb := bel.size
  have ltr0rb := r0.lt
  have ltrtrb := rt.lt
  have nn := alloc_on' V4 (.cells #[.int .u32 1, .int .u32 2, .int .i64 3, .int .i64 4] 27)
  have rb := row_new V4 [.int .u32 1, .int .u32 2, .int .i64 3, .int .i64 4] 27
  obtain ⟨V5, eV5⟩ : ∃ V, V4.alloc (.cells #[.int .u32 1, .int .u32 2, .int .i64 3, .int .i64 4] 27) = V := ⟨_, rfl⟩
  rw [eV5] at nn rb
  replace r0 := r0.on' nn
  replace rt := rt.on' nn
  replace bel := Below.then bel nn
  clear nn
  have rbc3 := rb.cell 3 _ rfl
  have srbc6 := rb.cell 3 _ rfl
  have srbf6 := rb.free 3
  replace r0 := r0.other (b := V4.heap.size) (by omega) 3 (.int .i64 a2)
  replace rt := rt.other (b := V4.heap.size) (by omega) 3 (.int .i64 a2)
  replace rb := rb.set 3 (.int .i64 a2)
  replace bel := bel.setCell (p := ⟨V4.heap.size, 3, none⟩) (show w.heap.size ≤ V4.heap.size by omega) (.int .i64 a2)
  obtain ⟨V6, eV6⟩ : ∃ V, V5.setCell ⟨V4.heap.size, 3, none⟩ (.int .i64 a2) = V := ⟨_, rfl⟩
  rw [eV6] at r0 rt rb bel
  replace rb : Row V6 V4.heap.size ([.int .u32 1, .int .u32 2, .int .i64 3, .int .i64 a2]) := rb
  have yt0 := rt.cell 0 _ rfl
  have yt1 := rt.cell 1 _ rfl
  have yt2 := rt.cell 2 _ rfl
  have yt3 := rt.cell 3 _ rfl
  go_wp2_with fail
  refine (unhide P1 _ (hE.on bel)).mono ?_
  rintro e v7 ⟨rfl, hb⟩
  replace r0 := r0.on' hb
  replace rt := rt.on' hb
  replace rb := rb.on' hb
  replace bel := Below.then bel hb
  clear eV4 rtc0 rtc1 rtc2 rtc3 eV5 rbc3 srbc6 srbf6 eV6 yt0 yt1 yt2 yt3
  clear hb
  have rtc0 := rt.cell 0 _ rfl
  have rtc1 := rt.cell 1 _ rfl
  have rtc2 := rt.cell 2 _ rfl
  have rtc3 := rt.cell 3 _ rfl
  go_wp2_with fail
  refine (unhide Q1 _ (hE.on bel)).mono ?_
  rintro e v8 ⟨rfl, hb⟩
  replace r0 := r0.on' hb
  replace rt := rt.on' hb
  replace rb := rb.on' hb
  replace bel := Below.then bel hb
  clear rtc0 rtc1 rtc2 rtc3
  clear hb
  have rbc0 := rb.cell 0 _ rfl
  have rbc1 := rb.cell 1 _ rfl
  have rbc2 := rb.cell 2 _ rfl
  have rbc3 := rb.cell 3 _ rfl
  go_wp2_with fail
  refine (unhide P2 _ (hE.on bel)).mono ?_
  rintro e v9 ⟨rfl, hb⟩
  replace r0 := r0.on' hb
  replace rt := rt.on' hb
  replace rb := rb.on' hb
  replace bel := Below.then bel hb
  clear rbc0 rbc1 rbc2 rbc3
  clear hb
  have rbc0 := rb.cell 0 _ rfl
  have rbc1 := rb.cell 1 _ rfl
  have rbc2 := rb.cell 2 _ rfl
  have rbc3 := rb.cell 3 _ rfl
  go_wp2_with fail
  refine (unhide Q2 _ (hE.on bel)).mono ?_
  rintro e v10 ⟨rfl, hb⟩
  replace r0 := r0.on' hb
  replace rt := rt.on' hb
  replace rb := rb.on' hb
  replace bel := Below.then bel hb
  clear rbc0 rbc1 rbc2 rbc3
  clear hb
  have r0c0 := r0.cell 0 _ rfl
  have r0c6 := r0.cell 6 _ rfl
  go_wp2_with fail
  go_ret
  exact ⟨rfl, bel⟩
set_option maxHeartbeats 8000000 in
set_option maxRecDepth 100000 in
theorem way_ao_hi (w : World) (hE : Ic.Env w) (a0 : Mk) (w0 : a0.Wf) (a1 : Int) (w1 : (Lit.int .u8 a1).wf = true) (a2 : Int) (hk : ¬ a0.kind % 4 < 2) (ht : a1 % 6 < 2) (hp : 65535 < a2) :
    Calls Tryz.prog 8 #[a0.val, .int .u8 a1, .int .i64 a2] w fun e w' => e = .returned (.bool true) ∧ Below w.heap.size w w' := by
  obtain ⟨b0, b1⟩ := bounds_u8 w1
  have kr : a1.tmod 6 = a1 % 6 := Int.tmod_eq_emod_of_nonneg b0
  have kr2 : IntKind.u8.wrap (a1 % 6) = a1 % 6 := by rw [IntKind.wrap_u8]; omega
  obtain ⟨T, hT⟩ : ∃ T : Int, a1 % 6 = T := ⟨_, rfl⟩
  have T0 : 0 ≤ T := by omega
  have T1 : T ≤ 255 := by omega
  rw [hT] at kr kr2 ht
  have k4m : a0.kind.tmod 4 = a0.kind % 4 := Int.tmod_eq_emod_of_nonneg w0.kind.1
  have k4w : IntKind.u8.wrap (a0.kind % 4) = a0.kind % 4 := by rw [IntKind.wrap_u8]; omega
  obtain ⟨m, hm⟩ : ∃ m : Mk, (⟨a0.kind, a0.src, a0.dst, a0.sport, a0.dport, a0.flags, T, a0.body, a0.zero, a0.frm, a0.dest⟩ : Mk) = m := ⟨_, rfl⟩
  have wm : m.Wf := by rw [← hm]; exact ⟨w0.kind, w0.src, w0.dst, w0.sport, w0.dport, w0.flags, by show 0 ≤ T ∧ T ≤ 255; omega, w0.body, w0.frm, w0.dest⟩
  have hmk : ¬ m.kind % 4 < 2 := by rw [← hm]; exact hk
  have sz := (frame_size wm).2
  have mt : m.ttl = T := by rw [← hm]
  have i3 : prtB 3 = true := prt_in (by decide)
  have i4 : prtB 4 = true := prt_in (by decide)
  have ip : prtB a2 = false := prt_out (.inr hp)
  have FA := hide (fun u => frame_any m u wm)
  have P1 := hide (fun u h => plain_any (frameS m) ⟨1, 2, 3, 4⟩ u (by omega) (u32s 1 2 (by decide)) h)
  have P2 := hide (fun u h => plain_any (frameS m) ⟨1, 2, 3, a2⟩ u (by omega) (u32s 1 2 (by decide)) h)
  have Q1 := hide (fun u h => about_any (frameS m) 1 2 ⟨1, 2, 3, 4⟩ u (by omega) (u32s 1 2 (by decide)).1 (u32s 1 2 (by decide)).2 (u32s 1 2 (by decide)) h)
  have Q2 := hide (fun u h => about_any (frameS m) 1 2 ⟨1, 2, 3, a2⟩ u (by omega) (u32s 1 2 (by decide)).1 (u32s 1 2 (by decide)).2 (u32s 1 2 (by decide)) h)
  have E1 := err_about wm hmk ⟨1, 2, 3, 4⟩ ⟨#[]⟩
  have E2 := err_about wm hmk ⟨1, 2, 3, a2⟩ ⟨#[]⟩
  rw [mt, err_of i3 i4, if_pos ht, Ps.app_nil] at E1
  rw [mt, err_of' i3 ip, Ps.app_nil] at E2
  have D1 := (about_no_plain wm hmk ⟨1, 2, 3, 4⟩ ⟨#[]⟩).1
  have D2 := (about_no_plain wm hmk ⟨1, 2, 3, a2⟩ ⟨#[]⟩).1
  rw [Ps.app_nil] at D1 D2
  rw [E1] at Q1
  rw [E2] at Q2
  rw [D1] at P1
  rw [D2] at P2
  clear E1 E2 D1 D2
  generalize plainS (frameS m) ⟨1, 2, 3, 4⟩ = x1 at *
  generalize plainS (frameS m) ⟨1, 2, 3, a2⟩ = x2 at *
  generalize aboutS (frameS m) 1 2 ⟨1, 2, 3, 4⟩ = x3 at *
  generalize aboutS (frameS m) 1 2 ⟨1, 2, 3, a2⟩ = x4 at *
  generalize frameS m = F at *
  rw [← hm] at FA
  clear mt sz hmk wm hm i3 i4 ip
  have KE := hide (fun u h => examples_any u h)
  have r0 := row_new w a0.cells 25
  have bel := alloc_on' w (.cells a0.cells.toArray 25)
  go_enter Tryz.func8, Tryz.ntmps8
  have r0c0 := r0.cell 0 _ rfl
  have r0c1 := r0.cell 1 _ rfl
  have r0c2 := r0.cell 2 _ rfl
  have r0c3 := r0.cell 3 _ rfl
  have r0c4 := r0.cell 4 _ rfl
  have r0c5 := r0.cell 5 _ rfl
  have r0c6 := r0.cell 6 _ rfl
  have r0c7 := r0.cell 7 _ rfl
  have r0c8 := r0.cell 8 _ rfl
  have r0c9 := r0.cell 9 _ rfl
  have r0c10 := r0.cell 10 _ rfl
  go_wp2_with fail
  refine (unhide KE _ (hE.on bel)).mono ?_
  rintro e v1 ⟨rfl, hb⟩
  replace r0 := r0.on' hb
  replace bel := Below.then bel hb
  clear r0c0 r0c1 r0c2 r0c3 r0c4 r0c5 r0c6 r0c7 r0c8 r0c9 r0c10
  clear hb
  have k0c6 := r0.cell 6 _ rfl
  have sr0c2 := r0.cell 6 _ rfl
  have sr0f2 := r0.free 6
  replace r0 := r0.set 6 (.int .u8 T)
  replace bel := bel.setCell (p := ⟨w.heap.size, 6, none⟩) (show w.heap.size ≤ w.heap.size by omega) (.int .u8 T)
  obtain ⟨V2, eV2⟩ : ∃ V, v1.setCell ⟨w.heap.size, 6, none⟩ (.int .u8 T) = V := ⟨_, rfl⟩
  rw [eV2] at r0 bel
  replace r0 : Row V2 w.heap.size ([.int .u8 a0.kind, .int .u32 a0.src, .int .u32 a0.dst, .int .u16 a0.sport, .int .u16 a0.dport, .int .u8 a0.flags, .int .u8 T, .string a0.body, .bool a0.zero, .int .u32 a0.frm, .int .u32 a0.dest]) := r0
  have r0c0 := r0.cell 0 _ rfl
  have r0c1 := r0.cell 1 _ rfl
  have r0c2 := r0.cell 2 _ rfl
  have r0c3 := r0.cell 3 _ rfl
  have r0c4 := r0.cell 4 _ rfl
  have r0c5 := r0.cell 5 _ rfl
  have r0c6 := r0.cell 6 _ rfl
  have r0c7 := r0.cell 7 _ rfl
  have r0c8 := r0.cell 8 _ rfl
  have r0c9 := r0.cell 9 _ rfl
  have r0c10 := r0.cell 10 _ rfl
  go_wp2_with fail
  refine (unhide FA _).mono ?_
  rintro e v3 ⟨rfl, hb⟩
  replace r0 := r0.on' hb
  replace bel := Below.then bel hb
  clear k0c6 sr0c2 sr0f2 eV2 r0c0 r0c1 r0c2 r0c3 r0c4 r0c5 r0c6 r0c7 r0c8 r0c9 r0c10
  clear hb
  have lert := bel.size
  have ltr0rt := r0.lt
  have nn := alloc_on' v3 (.cells #[.int .u32 1, .int .u32 2, .int .i64 3, .int .i64 4] 27)
  have rt := row_new v3 [.int .u32 1, .int .u32 2, .int .i64 3, .int .i64 4] 27
  obtain ⟨V4, eV4⟩ : ∃ V, v3.alloc (.cells #[.int .u32 1, .int .u32 2, .int .i64 3, .int .i64 4] 27) = V := ⟨_, rfl⟩
  rw [eV4] at nn rt
  replace r0 := r0.on' nn
  replace bel := Below.then bel nn
  clear nn
  have rtc0 := rt.cell 0 _ rfl
  have rtc1 := rt.cell 1 _ rfl
  have rtc2 := rt.cell 2 _ rfl
  have rtc3 := rt.cell 3 _ rfl
  have lerb := bel.size
  have ltr0rb := r0.lt
  have ltrtrb := rt.lt
  have nn := alloc_on' V4 (.cells #[.int .u32 1, .int .u32 2, .int .i64 3, .int .i64 4] 27)
  have rb := row_new V4 [.int .u32 1, .int .u32 2, .int .i64 3, .int .i64 4] 27
  obtain ⟨V5, eV5⟩ : ∃ V, V4.alloc (.cells #[.int .u32 1, .int .u32 2, .int .i64 3, .int .i64 4] 27) = V := ⟨_, rfl⟩
  rw [eV5] at nn rb
  replace r0 := r0.on' nn
  replace rt := rt.on' nn
  replace bel := Below.then bel nn
  clear nn
  have rbc3 := rb.cell 3 _ rfl
  have srbc6 := rb.cell 3 _ rfl
  have srbf6 := rb.free 3
  replace r0 := r0.other (b := V4.heap.size) (by omega) 3 (.int .i64 a2)
  replace rt := rt.other (b := V4.heap.size) (by omega) 3 (.int .i64 a2)
  replace rb := rb.set 3 (.int .i64 a2)
  replace bel := bel.setCell (p := ⟨V4.heap.size, 3, none⟩) (show w.heap.size ≤ V4.heap.size by omega) (.int .i64 a2)
  obtain ⟨V6, eV6⟩ : ∃ V, V5.setCell ⟨V4.heap.size, 3, none⟩ (.int .i64 a2) = V := ⟨_, rfl⟩
  rw [eV6] at r0 rt rb bel
  replace rb : Row V6 V4.heap.size ([.int .u32 1, .int .u32 2, .int .i64 3, .int .i64 a2]) := rb
  have yt0 := rt.cell 0 _ rfl
  have yt1 := rt.cell 1 _ rfl
  have yt2 := rt.cell 2 _ rfl
  have yt3 := rt.cell 3 _ rfl
  go_wp2_with fail
  refine (unhide P1 _ (hE.on bel)).mono ?_
  rintro e v7 ⟨rfl, hb⟩
  replace r0 := r0.on' hb
  replace rt := rt.on' hb
  replace rb := rb.on' hb
  replace bel := Below.then bel hb
  clear eV4 rtc0 rtc1 rtc2 rtc3 eV5 rbc3 srbc6 srbf6 eV6 yt0 yt1 yt2 yt3
  clear hb
  have rtc0 := rt.cell 0 _ rfl
  have rtc1 := rt.cell 1 _ rfl
  have rtc2 := rt.cell 2 _ rfl
  have rtc3 := rt.cell 3 _ rfl
  go_wp2_with fail
  refine (unhide Q1 _ (hE.on bel)).mono ?_
  rintro e v8 ⟨rfl, hb⟩
  replace r0 := r0.on' hb
  replace rt := rt.on' hb
  replace rb := rb.on' hb
  replace bel := Below.then bel hb
  clear rtc0 rtc1 rtc2 rtc3
  clear hb
  have rbc0 := rb.cell 0 _ rfl
  have rbc1 := rb.cell 1 _ rfl
  have rbc2 := rb.cell 2 _ rfl
  have rbc3 := rb.cell 3 _ rfl
  go_wp2_with fail
  refine (unhide P2 _ (hE.on bel)).mono ?_
  rintro e v9 ⟨rfl, hb⟩
  replace r0 := r0.on' hb
  replace rt := rt.on' hb
  replace rb := rb.on' hb
  replace bel := Below.then bel hb
  clear rbc0 rbc1 rbc2 rbc3
  clear hb
  have rbc0 := rb.cell 0 _ rfl
  have rbc1 := rb.cell 1 _ rfl
  have rbc2 := rb.cell 2 _ rfl
  have rbc3 := rb.cell 3 _ rfl
  go_wp2_with fail
  refine (unhide Q2 _ (hE.on bel)).mono ?_
  rintro e v10 ⟨rfl, hb⟩
  replace r0 := r0.on' hb
  replace rt := rt.on' hb
  replace rb := rb.on' hb
  replace bel := Below.then bel hb
  clear rbc0 rbc1 rbc2 rbc3
  clear hb
  have r0c0 := r0.cell 0 _ rfl
  have r0c6 := r0.cell 6 _ rfl
  go_wp2_with fail
  go_ret
  exact ⟨rfl, bel⟩
set_option maxHeartbeats 8000000 in
set_option maxRecDepth 100000 in
theorem way_ao_in (w : World) (hE : Ic.Env w) (a0 : Mk) (w0 : a0.Wf) (a1 : Int) (w1 : (Lit.int .u8 a1).wf = true) (a2 : Int) (hk : ¬ a0.kind % 4 < 2) (ht : a1 % 6 < 2) (hp : 0 ≤ a2 ∧ a2 ≤ 65535) :
    Calls Tryz.prog 8 #[a0.val, .int .u8 a1, .int .i64 a2] w fun e w' => e = .returned (.bool true) ∧ Below w.heap.size w w' := by
  obtain ⟨b0, b1⟩ := bounds_u8 w1
  have kr : a1.tmod 6 = a1 % 6 := Int.tmod_eq_emod_of_nonneg b0
  have kr2 : IntKind.u8.wrap (a1 % 6) = a1 % 6 := by rw [IntKind.wrap_u8]; omega
  obtain ⟨T, hT⟩ : ∃ T : Int, a1 % 6 = T := ⟨_, rfl⟩
  have T0 : 0 ≤ T := by omega
  have T1 : T ≤ 255 := by omega
  rw [hT] at kr kr2 ht
  have k4m : a0.kind.tmod 4 = a0.kind % 4 := Int.tmod_eq_emod_of_nonneg w0.kind.1
  have k4w : IntKind.u8.wrap (a0.kind % 4) = a0.kind % 4 := by rw [IntKind.wrap_u8]; omega
  obtain ⟨m, hm⟩ : ∃ m : Mk, (⟨a0.kind, a0.src, a0.dst, a0.sport, a0.dport, a0.flags, T, a0.body, a0.zero, a0.frm, a0.dest⟩ : Mk) = m := ⟨_, rfl⟩
  have wm : m.Wf := by rw [← hm]; exact ⟨w0.kind, w0.src, w0.dst, w0.sport, w0.dport, w0.flags, by show 0 ≤ T ∧ T ≤ 255; omega, w0.body, w0.frm, w0.dest⟩
  have hmk : ¬ m.kind % 4 < 2 := by rw [← hm]; exact hk
  have sz := (frame_size wm).2
  have mt : m.ttl = T := by rw [← hm]
  have i3 : prtB 3 = true := prt_in (by decide)
  have i4 : prtB 4 = true := prt_in (by decide)
  have ip : prtB a2 = true := prt_in hp
  have FA := hide (fun u => frame_any m u wm)
  have P1 := hide (fun u h => plain_any (frameS m) ⟨1, 2, 3, 4⟩ u (by omega) (u32s 1 2 (by decide)) h)
  have P2 := hide (fun u h => plain_any (frameS m) ⟨1, 2, 3, a2⟩ u (by omega) (u32s 1 2 (by decide)) h)
  have Q1 := hide (fun u h => about_any (frameS m) 1 2 ⟨1, 2, 3, 4⟩ u (by omega) (u32s 1 2 (by decide)).1 (u32s 1 2 (by decide)).2 (u32s 1 2 (by decide)) h)
  have Q2 := hide (fun u h => about_any (frameS m) 1 2 ⟨1, 2, 3, a2⟩ u (by omega) (u32s 1 2 (by decide)).1 (u32s 1 2 (by decide)).2 (u32s 1 2 (by decide)) h)
  have E1 := err_about wm hmk ⟨1, 2, 3, 4⟩ ⟨#[]⟩
  have E2 := err_about wm hmk ⟨1, 2, 3, a2⟩ ⟨#[]⟩
  rw [mt, err_of i3 i4, if_pos ht, Ps.app_nil] at E1
  rw [mt, err_of i3 ip, if_pos ht, Ps.app_nil] at E2
  have D1 := (about_no_plain wm hmk ⟨1, 2, 3, 4⟩ ⟨#[]⟩).1
  have D2 := (about_no_plain wm hmk ⟨1, 2, 3, a2⟩ ⟨#[]⟩).1
  rw [Ps.app_nil] at D1 D2
  rw [E1] at Q1
  rw [E2] at Q2
  rw [D1] at P1
  rw [D2] at P2
  clear E1 E2 D1 D2
  generalize plainS (frameS m) ⟨1, 2, 3, 4⟩ = x1 at *
  generalize plainS (frameS m) ⟨1, 2, 3, a2⟩ = x2 at *
  generalize aboutS (frameS m) 1 2 ⟨1, 2, 3, 4⟩ = x3 at *
  generalize aboutS (frameS m) 1 2 ⟨1, 2, 3, a2⟩ = x4 at *
  generalize frameS m = F at *
  rw [← hm] at FA
  clear mt sz hmk wm hm i3 i4 ip
  obtain ⟨q0, q1⟩ := hp
  have n1 : decide (a2 < 0) = false := by simp; omega
  have n2 : decide (65535 < a2) = false := by simp; omega
  have KE := hide (fun u h => examples_any u h)
  have r0 := row_new w a0.cells 25
  have bel := alloc_on' w (.cells a0.cells.toArray 25)
  go_enter Tryz.func8, Tryz.ntmps8
  have r0c0 := r0.cell 0 _ rfl
  have r0c1 := r0.cell 1 _ rfl
  have r0c2 := r0.cell 2 _ rfl
  have r0c3 := r0.cell 3 _ rfl
  have r0c4 := r0.cell 4 _ rfl
  have r0c5 := r0.cell 5 _ rfl
  have r0c6 := r0.cell 6 _ rfl
  have r0c7 := r0.cell 7 _ rfl
  have r0c8 := r0.cell 8 _ rfl
  have r0c9 := r0.cell 9 _ rfl
  have r0c10 := r0.cell 10 _ rfl
  go_wp2_with fail
  refine (unhide KE _ (hE.on bel)).mono ?_
  rintro e v1 ⟨rfl, hb⟩
  replace r0 := r0.on' hb
  replace bel := Below.then bel hb
  clear r0c0 r0c1 r0c2 r0c3 r0c4 r0c5 r0c6 r0c7 r0c8 r0c9 r0c10
  clear hb
  have k0c6 := r0.cell 6 _ rfl
  have sr0c2 := r0.cell 6 _ rfl
  have sr0f2 := r0.free 6
  replace r0 := r0.set 6 (.int .u8 T)
  replace bel := bel.setCell (p := ⟨w.heap.size, 6, none⟩) (show w.heap.size ≤ w.heap.size by omega) (.int .u8 T)
  obtain ⟨V2, eV2⟩ : ∃ V, v1.setCell ⟨w.heap.size, 6, none⟩ (.int .u8 T) = V := ⟨_, rfl⟩
  rw [eV2] at r0 bel
  replace r0 : Row V2 w.heap.size ([.int .u8 a0.kind, .int .u32 a0.src, .int .u32 a0.dst, .int .u16 a0.sport, .int .u16 a0.dport, .int .u8 a0.flags, .int .u8 T, .string a0.body, .bool a0.zero, .int .u32 a0.frm, .int .u32 a0.dest]) := r0
  have r0c0 := r0.cell 0 _ rfl
  have r0c1 := r0.cell 1 _ rfl
  have r0c2 := r0.cell 2 _ rfl
  have r0c3 := r0.cell 3 _ rfl
  have r0c4 := r0.cell 4 _ rfl
  have r0c5 := r0.cell 5 _ rfl
  have r0c6 := r0.cell 6 _ rfl
  have r0c7 := r0.cell 7 _ rfl
  have r0c8 := r0.cell 8 _ rfl
  have r0c9 := r0.cell 9 _ rfl
  have r0c10 := r0.cell 10 _ rfl
  go_wp2_with fail
  refine (unhide FA _).mono ?_
  rintro e v3 ⟨rfl, hb⟩
  replace r0 := r0.on' hb
  replace bel := Below.then bel hb
  clear k0c6 sr0c2 sr0f2 eV2 r0c0 r0c1 r0c2 r0c3 r0c4 r0c5 r0c6 r0c7 r0c8 r0c9 r0c10
  clear hb
  have lert := bel.size
  have ltr0rt := r0.lt
  have nn := alloc_on' v3 (.cells #[.int .u32 1, .int .u32 2, .int .i64 3, .int .i64 4] 27)
  have rt := row_new v3 [.int .u32 1, .int .u32 2, .int .i64 3, .int .i64 4] 27
  obtain ⟨V4, eV4⟩ : ∃ V, v3.alloc (.cells #[.int .u32 1, .int .u32 2, .int .i64 3, .int .i64 4] 27) = V := ⟨_, rfl⟩
  rw [eV4] at nn rt
  replace r0 := r0.on' nn
  replace bel := Below.then bel nn
  clear nn
  have rtc0 := rt.cell 0 _ rfl
  have rtc1 := rt.cell 1 _ rfl
  have rtc2 := rt.cell 2 _ rfl
  have rtc3 := rt.cell 3 _ rfl
  have lerb := bel.size
  have ltr0rb := r0.lt
  have ltrtrb := rt.lt
  have nn := alloc_on' V4 (.cells #[.int .u32 1, .int .u32 2, .int .i64 3, .int .i64 4] 27)
  have rb := row_new V4 [.int .u32 1, .int .u32 2, .int .i64 3, .int .i64 4] 27
  obtain ⟨V5, eV5⟩ : ∃ V, V4.alloc (.cells #[.int .u32 1, .int .u32 2, .int .i64 3, .int .i64 4] 27) = V := ⟨_, rfl⟩
  rw [eV5] at nn rb
  replace r0 := r0.on' nn
  replace rt := rt.on' nn
  replace bel := Below.then bel nn
  clear nn
  have rbc3 := rb.cell 3 _ rfl
  have srbc6 := rb.cell 3 _ rfl
  have srbf6 := rb.free 3
  replace r0 := r0.other (b := V4.heap.size) (by omega) 3 (.int .i64 a2)
  replace rt := rt.other (b := V4.heap.size) (by omega) 3 (.int .i64 a2)
  replace rb := rb.set 3 (.int .i64 a2)
  replace bel := bel.setCell (p := ⟨V4.heap.size, 3, none⟩) (show w.heap.size ≤ V4.heap.size by omega) (.int .i64 a2)
  obtain ⟨V6, eV6⟩ : ∃ V, V5.setCell ⟨V4.heap.size, 3, none⟩ (.int .i64 a2) = V := ⟨_, rfl⟩
  rw [eV6] at r0 rt rb bel
  replace rb : Row V6 V4.heap.size ([.int .u32 1, .int .u32 2, .int .i64 3, .int .i64 a2]) := rb
  have yt0 := rt.cell 0 _ rfl
  have yt1 := rt.cell 1 _ rfl
  have yt2 := rt.cell 2 _ rfl
  have yt3 := rt.cell 3 _ rfl
  go_wp2_with fail
  refine (unhide P1 _ (hE.on bel)).mono ?_
  rintro e v7 ⟨rfl, hb⟩
  replace r0 := r0.on' hb
  replace rt := rt.on' hb
  replace rb := rb.on' hb
  replace bel := Below.then bel hb
  clear eV4 rtc0 rtc1 rtc2 rtc3 eV5 rbc3 srbc6 srbf6 eV6 yt0 yt1 yt2 yt3
  clear hb
  have rtc0 := rt.cell 0 _ rfl
  have rtc1 := rt.cell 1 _ rfl
  have rtc2 := rt.cell 2 _ rfl
  have rtc3 := rt.cell 3 _ rfl
  go_wp2_with fail
  refine (unhide Q1 _ (hE.on bel)).mono ?_
  rintro e v8 ⟨rfl, hb⟩
  replace r0 := r0.on' hb
  replace rt := rt.on' hb
  replace rb := rb.on' hb
  replace bel := Below.then bel hb
  clear rtc0 rtc1 rtc2 rtc3
  clear hb
  have rbc0 := rb.cell 0 _ rfl
  have rbc1 := rb.cell 1 _ rfl
  have rbc2 := rb.cell 2 _ rfl
  have rbc3 := rb.cell 3 _ rfl
  go_wp2_with fail
  refine (unhide P2 _ (hE.on bel)).mono ?_
  rintro e v9 ⟨rfl, hb⟩
  replace r0 := r0.on' hb
  replace rt := rt.on' hb
  replace rb := rb.on' hb
  replace bel := Below.then bel hb
  clear rbc0 rbc1 rbc2 rbc3
  clear hb
  have rbc0 := rb.cell 0 _ rfl
  have rbc1 := rb.cell 1 _ rfl
  have rbc2 := rb.cell 2 _ rfl
  have rbc3 := rb.cell 3 _ rfl
  go_wp2_with fail
  refine (unhide Q2 _ (hE.on bel)).mono ?_
  rintro e v10 ⟨rfl, hb⟩
  replace r0 := r0.on' hb
  replace rt := rt.on' hb
  replace rb := rb.on' hb
  replace bel := Below.then bel hb
  clear rbc0 rbc1 rbc2 rbc3
  clear hb
  have r0c0 := r0.cell 0 _ rfl
  have r0c6 := r0.cell 6 _ rfl
  go_wp2_with fail
  go_ret
  exact ⟨rfl, bel⟩
set_option maxHeartbeats 8000000 in
set_option maxRecDepth 100000 in
theorem way_an_lo (w : World) (hE : Ic.Env w) (a0 : Mk) (w0 : a0.Wf) (a1 : Int) (w1 : (Lit.int .u8 a1).wf = true) (a2 : Int) (hk : ¬ a0.kind % 4 < 2) (ht : ¬ a1 % 6 < 2) (hp : a2 < 0) :
    Calls Tryz.prog 8 #[a0.val, .int .u8 a1, .int .i64 a2] w fun e w' => e = .returned (.bool true) ∧ Below w.heap.size w w' := by
  obtain ⟨b0, b1⟩ := bounds_u8 w1
  have kr : a1.tmod 6 = a1 % 6 := Int.tmod_eq_emod_of_nonneg b0
  have kr2 : IntKind.u8.wrap (a1 % 6) = a1 % 6 := by rw [IntKind.wrap_u8]; omega
  obtain ⟨T, hT⟩ : ∃ T : Int, a1 % 6 = T := ⟨_, rfl⟩
  have T0 : 0 ≤ T := by omega
  have T1 : T ≤ 255 := by omega
  rw [hT] at kr kr2 ht
  have k4m : a0.kind.tmod 4 = a0.kind % 4 := Int.tmod_eq_emod_of_nonneg w0.kind.1
  have k4w : IntKind.u8.wrap (a0.kind % 4) = a0.kind % 4 := by rw [IntKind.wrap_u8]; omega
  obtain ⟨m, hm⟩ : ∃ m : Mk, (⟨a0.kind, a0.src, a0.dst, a0.sport, a0.dport, a0.flags, T, a0.body, a0.zero, a0.frm, a0.dest⟩ : Mk) = m := ⟨_, rfl⟩
  have wm : m.Wf := by rw [← hm]; exact ⟨w0.kind, w0.src, w0.dst, w0.sport, w0.dport, w0.flags, by show 0 ≤ T ∧ T ≤ 255; omega, w0.body, w0.frm, w0.dest⟩
  have hmk : ¬ m.kind % 4 < 2 := by rw [← hm]; exact hk
  have sz := (frame_size wm).2
  have mt : m.ttl = T := by rw [← hm]
  have i3 : prtB 3 = true := prt_in (by decide)
  have i4 : prtB 4 = true := prt_in (by decide)
  have ip : prtB a2 = false := prt_out (.inl hp)
  have FA := hide (fun u => frame_any m u wm)
  have P1 := hide (fun u h => plain_any (frameS m) ⟨1, 2, 3, 4⟩ u (by omega) (u32s 1 2 (by decide)) h)
  have P2 := hide (fun u h => plain_any (frameS m) ⟨1, 2, 3, a2⟩ u (by omega) (u32s 1 2 (by decide)) h)
  have Q1 := hide (fun u h => about_any (frameS m) 1 2 ⟨1, 2, 3, 4⟩ u (by omega) (u32s 1 2 (by decide)).1 (u32s 1 2 (by decide)).2 (u32s 1 2 (by decide)) h)
  have Q2 := hide (fun u h => about_any (frameS m) 1 2 ⟨1, 2, 3, a2⟩ u (by omega) (u32s 1 2 (by decide)).1 (u32s 1 2 (by decide)).2 (u32s 1 2 (by decide)) h)
  have E1 := err_about wm hmk ⟨1, 2, 3, 4⟩ ⟨#[]⟩
  have E2 := err_about wm hmk ⟨1, 2, 3, a2⟩ ⟨#[]⟩
  rw [mt, err_of i3 i4, if_neg ht, Ps.app_nil] at E1
  rw [mt, err_of' i3 ip, Ps.app_nil] at E2
  have D1 := (about_no_plain wm hmk ⟨1, 2, 3, 4⟩ ⟨#[]⟩).1
  have D2 := (about_no_plain wm hmk ⟨1, 2, 3, a2⟩ ⟨#[]⟩).1
  rw [Ps.app_nil] at D1 D2
  rw [E1] at Q1
  rw [E2] at Q2
  rw [D1] at P1
  rw [D2] at P2
  clear E1 E2 D1 D2
  generalize plainS (frameS m) ⟨1, 2, 3, 4⟩ = x1 at *
  generalize plainS (frameS m) ⟨1, 2, 3, a2⟩ = x2 at *
  generalize aboutS (frameS m) 1 2 ⟨1, 2, 3, 4⟩ = x3 at *
  generalize aboutS (frameS m) 1 2 ⟨1, 2, 3, a2⟩ = x4 at *
  generalize frameS m = F at *
  rw [← hm] at FA
  clear mt sz hmk wm hm i3 i4 ip
  have KE := hide (fun u h => examples_any u h)
  have r0 := row_new w a0.cells 25
  have bel := alloc_on' w (.cells a0.cells.toArray 25)
  go_enter Tryz.func8, Tryz.ntmps8
  have r0c0 := r0.cell 0 _ rfl
  have r0c1 := r0.cell 1 _ rfl
  have r0c2 := r0.cell 2 _ rfl
  have r0c3 := r0.cell 3 _ rfl
  have r0c4 := r0.cell 4 _ rfl
  have r0c5 := r0.cell 5 _ rfl
  have r0c6 := r0.cell 6 _ rfl
  have r0c7 := r0.cell 7 _ rfl
  have r0c8 := r0.cell 8 _ rfl
  have r0c9 := r0.cell 9 _ rfl
  have r0c10 := r0.cell 10 _ rfl
  go_wp2_with fail
  refine (unhide KE _ (hE.on bel)).mono ?_
  rintro e v1 ⟨rfl, hb⟩
  replace r0 := r0.on' hb
  replace bel := Below.then bel hb
  clear r0c0 r0c1 r0c2 r0c3 r0c4 r0c5 r0c6 r0c7 r0c8 r0c9 r0c10
  clear hb
  have k0c6 := r0.cell 6 _ rfl
  have sr0c2 := r0.cell 6 _ rfl
  have sr0f2 := r0.free 6
  replace r0 := r0.set 6 (.int .u8 T)
  replace bel := bel.setCell (p := ⟨w.heap.size, 6, none⟩) (show w.heap.size ≤ w.heap.size by omega) (.int .u8 T)
  obtain ⟨V2, eV2⟩ : ∃ V, v1.setCell ⟨w.heap.size, 6, none⟩ (.int .u8 T) = V := ⟨_, rfl⟩
  rw [eV2] at r0 bel
  replace r0 : Row V2 w.heap.size ([.int .u8 a0.kind, .int .u32 a0.src, .int .u32 a0.dst, .int .u16 a0.sport, .int .u16 a0.dport, .int .u8 a0.flags, .int .u8 T, .string a0.body, .bool a0.zero, .int .u32 a0.frm, .int .u32 a0.dest]) := r0
  have r0c0 := r0.cell 0 _ rfl
  have r0c1 := r0.cell 1 _ rfl
  have r0c2 := r0.cell 2 _ rfl
  have r0c3 := r0.cell 3 _ rfl
  have r0c4 := r0.cell 4 _ rfl
  have r0c5 := r0.cell 5 _ rfl
  have r0c6 := r0.cell 6 _ rfl
  have r0c7 := r0.cell 7 _ rfl
  have r0c8 := r0.cell 8 _ rfl
  have r0c9 := r0.cell 9 _ rfl
  have r0c10 := r0.cell 10 _ rfl
  go_wp2_with fail
  refine (unhide FA _).mono ?_
  rintro e v3 ⟨rfl, hb⟩
  replace r0 := r0.on' hb
  replace bel := Below.then bel hb
  clear k0c6 sr0c2 sr0f2 eV2 r0c0 r0c1 r0c2 r0c3 r0c4 r0c5 r0c6 r0c7 r0c8 r0c9 r0c10
  clear hb
  have lert := bel.size
  have ltr0rt := r0.lt
  have nn := alloc_on' v3 (.cells #[.int .u32 1, .int .u32 2, .int .i64 3, .int .i64 4] 27)
  have rt := row_new v3 [.int .u32 1, .int .u32 2, .int .i64 3, .int .i64 4] 27
  obtain ⟨V4, eV4⟩ : ∃ V, v3.alloc (.cells #[.int .u32 1, .int .u32 2, .int .i64 3, .int .i64 4] 27) = V := ⟨_, rfl⟩
  rw [eV4] at nn rt
  replace r0 := r0.on' nn
  replace bel := Below.then bel nn
  clear nn
  have rtc0 := rt.cell 0 _ rfl
  have rtc1 := rt.cell 1 _ rfl
  have rtc2 := rt.cell 2 _ rfl
  have rtc3 := rt.cell 3 _ rfl
  have lerb := bel.size
  have ltr0rb := r0.lt
  have ltrtrb := rt.lt
  have nn := alloc_on' V4 (.cells #[.int .u32 1, .int .u32 2, .int .i64 3, .int .i64 4] 27)
  have rb := row_new V4 [.int .u32 1, .int .u32 2, .int .i64 3, .int .i64 4] 27
  obtain ⟨V5, eV5⟩ : ∃ V, V4.alloc (.cells #[.int .u32 1, .int .u32 2, .int .i64 3, .int .i64 4] 27) = V := ⟨_, rfl⟩
  rw [eV5] at nn rb
  replace r0 := r0.on' nn
  replace rt := rt.on' nn
  replace bel := Below.then bel nn
  clear nn
  have rbc3 := rb.cell 3 _ rfl
  have srbc6 := rb.cell 3 _ rfl
  have srbf6 := rb.free 3
  replace r0 := r0.other (b := V4.heap.size) (by omega) 3 (.int .i64 a2)
  replace rt := rt.other (b := V4.heap.size) (by omega) 3 (.int .i64 a2)
  replace rb := rb.set 3 (.int .i64 a2)
  replace bel := bel.setCell (p := ⟨V4.heap.size, 3, none⟩) (show w.heap.size ≤ V4.heap.size by omega) (.int .i64 a2)
  obtain ⟨V6, eV6⟩ : ∃ V, V5.setCell ⟨V4.heap.size, 3, none⟩ (.int .i64 a2) = V := ⟨_, rfl⟩
  rw [eV6] at r0 rt rb bel
  replace rb : Row V6 V4.heap.size ([.int .u32 1, .int .u32 2, .int .i64 3, .int .i64 a2]) := rb
  have yt0 := rt.cell 0 _ rfl
  have yt1 := rt.cell 1 _ rfl
  have yt2 := rt.cell 2 _ rfl
  have yt3 := rt.cell 3 _ rfl
  go_wp2_with fail
  refine (unhide P1 _ (hE.on bel)).mono ?_
  rintro e v7 ⟨rfl, hb⟩
  replace r0 := r0.on' hb
  replace rt := rt.on' hb
  replace rb := rb.on' hb
  replace bel := Below.then bel hb
  clear eV4 rtc0 rtc1 rtc2 rtc3 eV5 rbc3 srbc6 srbf6 eV6 yt0 yt1 yt2 yt3
  clear hb
  have rtc0 := rt.cell 0 _ rfl
  have rtc1 := rt.cell 1 _ rfl
  have rtc2 := rt.cell 2 _ rfl
  have rtc3 := rt.cell 3 _ rfl
  go_wp2_with fail
  refine (unhide Q1 _ (hE.on bel)).mono ?_
  rintro e v8 ⟨rfl, hb⟩
  replace r0 := r0.on' hb
  replace rt := rt.on' hb
  replace rb := rb.on' hb
  replace bel := Below.then bel hb
  clear rtc0 rtc1 rtc2 rtc3
  clear hb
  have rbc0 := rb.cell 0 _ rfl
  have rbc1 := rb.cell 1 _ rfl
  have rbc2 := rb.cell 2 _ rfl
  have rbc3 := rb.cell 3 _ rfl
  go_wp2_with fail
  refine (unhide P2 _ (hE.on bel)).mono ?_
  rintro e v9 ⟨rfl, hb⟩
  replace r0 := r0.on' hb
  replace rt := rt.on' hb
  replace rb := rb.on' hb
  replace bel := Below.then bel hb
  clear rbc0 rbc1 rbc2 rbc3
  clear hb
  have rbc0 := rb.cell 0 _ rfl
  have rbc1 := rb.cell 1 _ rfl
  have rbc2 := rb.cell 2 _ rfl
  have rbc3 := rb.cell 3 _ rfl
  go_wp2_with fail
  refine (unhide Q2 _ (hE.on bel)).mono ?_
  rintro e v10 ⟨rfl, hb⟩
  replace r0 := r0.on' hb
  replace rt := rt.on' hb
  replace rb := rb.on' hb
  replace bel := Below.then bel hb
  clear rbc0 rbc1 rbc2 rbc3
  clear hb
  have r0c0 := r0.cell 0 _ rfl
  have r0c6 := r0.cell 6 _ rfl
  go_wp2_with fail
  go_ret
  exact ⟨rfl, bel⟩
set_option maxHeartbeats 8000000 in
set_option maxRecDepth 100000 in
theorem way_an_hi (w : World) (hE : Ic.Env w) (a0 : Mk) (w0 : a0.Wf) (a1 : Int) (w1 : (Lit.int .u8 a1).wf = true) (a2 : Int) (hk : ¬ a0.kind % 4 < 2) (ht : ¬ a1 % 6 < 2) (hp : 65535 < a2) :
    Calls Tryz.prog 8 #[a0.val, .int .u8 a1, .int .i64 a2] w fun e w' => e = .returned (.bool true) ∧ Below w.heap.size w w' := by
  obtain ⟨b0, b1⟩ := bounds_u8 w1
  have kr : a1.tmod 6 = a1 % 6 := Int.tmod_eq_emod_of_nonneg b0
  have kr2 : IntKind.u8.wrap (a1 % 6) = a1 % 6 := by rw [IntKind.wrap_u8]; omega
  obtain ⟨T, hT⟩ : ∃ T : Int, a1 % 6 = T := ⟨_, rfl⟩
  have T0 : 0 ≤ T := by omega
  have T1 : T ≤ 255 := by omega
  rw [hT] at kr kr2 ht
  have k4m : a0.kind.tmod 4 = a0.kind % 4 := Int.tmod_eq_emod_of_nonneg w0.kind.1
  have k4w : IntKind.u8.wrap (a0.kind % 4) = a0.kind % 4 := by rw [IntKind.wrap_u8]; omega
  obtain ⟨m, hm⟩ : ∃ m : Mk, (⟨a0.kind, a0.src, a0.dst, a0.sport, a0.dport, a0.flags, T, a0.body, a0.zero, a0.frm, a0.dest⟩ : Mk) = m := ⟨_, rfl⟩
  have wm : m.Wf := by rw [← hm]; exact ⟨w0.kind, w0.src, w0.dst, w0.sport, w0.dport, w0.flags, by show 0 ≤ T ∧ T ≤ 255; omega, w0.body, w0.frm, w0.dest⟩
  have hmk : ¬ m.kind % 4 < 2 := by rw [← hm]; exact hk
  have sz := (frame_size wm).2
  have mt : m.ttl = T := by rw [← hm]
  have i3 : prtB 3 = true := prt_in (by decide)
  have i4 : prtB 4 = true := prt_in (by decide)
  have ip : prtB a2 = false := prt_out (.inr hp)
  have FA := hide (fun u => frame_any m u wm)
  have P1 := hide (fun u h => plain_any (frameS m) ⟨1, 2, 3, 4⟩ u (by omega) (u32s 1 2 (by decide)) h)
  have P2 := hide (fun u h => plain_any (frameS m) ⟨1, 2, 3, a2⟩ u (by omega) (u32s 1 2 (by decide)) h)
  have Q1 := hide (fun u h => about_any (frameS m) 1 2 ⟨1, 2, 3, 4⟩ u (by omega) (u32s 1 2 (by decide)).1 (u32s 1 2 (by decide)).2 (u32s 1 2 (by decide)) h)
  have Q2 := hide (fun u h => about_any (frameS m) 1 2 ⟨1, 2, 3, a2⟩ u (by omega) (u32s 1 2 (by decide)).1 (u32s 1 2 (by decide)).2 (u32s 1 2 (by decide)) h)
  have E1 := err_about wm hmk ⟨1, 2, 3, 4⟩ ⟨#[]⟩
  have E2 := err_about wm hmk ⟨1, 2, 3, a2⟩ ⟨#[]⟩
  rw [mt, err_of i3 i4, if_neg ht, Ps.app_nil] at E1
  rw [mt, err_of' i3 ip, Ps.app_nil] at E2
  have D1 := (about_no_plain wm hmk ⟨1, 2, 3, 4⟩ ⟨#[]⟩).1
  have D2 := (about_no_plain wm hmk ⟨1, 2, 3, a2⟩ ⟨#[]⟩).1
  rw [Ps.app_nil] at D1 D2
  rw [E1] at Q1
  rw [E2] at Q2
  rw [D1] at P1
  rw [D2] at P2
  clear E1 E2 D1 D2
  generalize plainS (frameS m) ⟨1, 2, 3, 4⟩ = x1 at *
  generalize plainS (frameS m) ⟨1, 2, 3, a2⟩ = x2 at *
  generalize aboutS (frameS m) 1 2 ⟨1, 2, 3, 4⟩ = x3 at *
  generalize aboutS (frameS m) 1 2 ⟨1, 2, 3, a2⟩ = x4 at *
  generalize frameS m = F at *
  rw [← hm] at FA
  clear mt sz hmk wm hm i3 i4 ip
  have KE := hide (fun u h => examples_any u h)
  have r0 := row_new w a0.cells 25
  have bel := alloc_on' w (.cells a0.cells.toArray 25)
  go_enter Tryz.func8, Tryz.ntmps8
  have r0c0 := r0.cell 0 _ rfl
  have r0c1 := r0.cell 1 _ rfl
  have r0c2 := r0.cell 2 _ rfl
  have r0c3 := r0.cell 3 _ rfl
  have r0c4 := r0.cell 4 _ rfl
  have r0c5 := r0.cell 5 _ rfl
  have r0c6 := r0.cell 6 _ rfl
  have r0c7 := r0.cell 7 _ rfl
  have r0c8 := r0.cell 8 _ rfl
  have r0c9 := r0.cell 9 _ rfl
  have r0c10 := r0.cell 10 _ rfl
  go_wp2_with fail
  refine (unhide KE _ (hE.on bel)).mono ?_
  rintro e v1 ⟨rfl, hb⟩
  replace r0 := r0.on' hb
  replace bel := Below.then bel hb
  clear r0c0 r0c1 r0c2 r0c3 r0c4 r0c5 r0c6 r0c7 r0c8 r0c9 r0c10
  clear hb
  have k0c6 := r0.cell 6 _ rfl
  have sr0c2 := r0.cell 6 _ rfl
  have sr0f2 := r0.free 6
  replace r0 := r0.set 6 (.int .u8 T)
  replace bel := bel.setCell (p := ⟨w.heap.size, 6, none⟩) (show w.heap.size ≤ w.heap.size by omega) (.int .u8 T)
  obtain ⟨V2, eV2⟩ : ∃ V, v1.setCell ⟨w.heap.size, 6, none⟩ (.int .u8 T) = V := ⟨_, rfl⟩
  rw [eV2] at r0 bel
  replace r0 : Row V2 w.heap.size ([.int .u8 a0.kind, .int .u32 a0.src, .int .u32 a0.dst, .int .u16 a0.sport, .int .u16 a0.dport, .int .u8 a0.flags, .int .u8 T, .string a0.body, .bool a0.zero, .int .u32 a0.frm, .int .u32 a0.dest]) := r0
  have r0c0 := r0.cell 0 _ rfl
  have r0c1 := r0.cell 1 _ rfl
  have r0c2 := r0.cell 2 _ rfl
  have r0c3 := r0.cell 3 _ rfl
  have r0c4 := r0.cell 4 _ rfl
  have r0c5 := r0.cell 5 _ rfl
  have r0c6 := r0.cell 6 _ rfl
  have r0c7 := r0.cell 7 _ rfl
  have r0c8 := r0.cell 8 _ rfl
  have r0c9 := r0.cell 9 _ rfl
  have r0c10 := r0.cell 10 _ rfl
  go_wp2_with fail
  refine (unhide FA _).mono ?_
  rintro e v3 ⟨rfl, hb⟩
  replace r0 := r0.on' hb
  replace bel := Below.then bel hb
  clear k0c6 sr0c2 sr0f2 eV2 r0c0 r0c1 r0c2 r0c3 r0c4 r0c5 r0c6 r0c7 r0c8 r0c9 r0c10
  clear hb
  have lert := bel.size
  have ltr0rt := r0.lt
  have nn := alloc_on' v3 (.cells #[.int .u32 1, .int .u32 2, .int .i64 3, .int .i64 4] 27)
  have rt := row_new v3 [.int .u32 1, .int .u32 2, .int .i64 3, .int .i64 4] 27
  obtain ⟨V4, eV4⟩ : ∃ V, v3.alloc (.cells #[.int .u32 1, .int .u32 2, .int .i64 3, .int .i64 4] 27) = V := ⟨_, rfl⟩
  rw [eV4] at nn rt
  replace r0 := r0.on' nn
  replace bel := Below.then bel nn
  clear nn
  have rtc0 := rt.cell 0 _ rfl
  have rtc1 := rt.cell 1 _ rfl
  have rtc2 := rt.cell 2 _ rfl
  have rtc3 := rt.cell 3 _ rfl
  have lerb := bel.size
  have ltr0rb := r0.lt
  have ltrtrb := rt.lt
  have nn := alloc_on' V4 (.cells #[.int .u32 1, .int .u32 2, .int .i64 3, .int .i64 4] 27)
  have rb := row_new V4 [.int .u32 1, .int .u32 2, .int .i64 3, .int .i64 4] 27
  obtain ⟨V5, eV5⟩ : ∃ V, V4.alloc (.cells #[.int .u32 1, .int .u32 2, .int .i64 3, .int .i64 4] 27) = V := ⟨_, rfl⟩
  rw [eV5] at nn rb
  replace r0 := r0.on' nn
  replace rt := rt.on' nn
  replace bel := Below.then bel nn
  clear nn
  have rbc3 := rb.cell 3 _ rfl
  have srbc6 := rb.cell 3 _ rfl
  have srbf6 := rb.free 3
  replace r0 := r0.other (b := V4.heap.size) (by omega) 3 (.int .i64 a2)
  replace rt := rt.other (b := V4.heap.size) (by omega) 3 (.int .i64 a2)
  replace rb := rb.set 3 (.int .i64 a2)
  replace bel := bel.setCell (p := ⟨V4.heap.size, 3, none⟩) (show w.heap.size ≤ V4.heap.size by omega) (.int .i64 a2)
  obtain ⟨V6, eV6⟩ : ∃ V, V5.setCell ⟨V4.heap.size, 3, none⟩ (.int .i64 a2) = V := ⟨_, rfl⟩
  rw [eV6] at r0 rt rb bel
  replace rb : Row V6 V4.heap.size ([.int .u32 1, .int .u32 2, .int .i64 3, .int .i64 a2]) := rb
  have yt0 := rt.cell 0 _ rfl
  have yt1 := rt.cell 1 _ rfl
  have yt2 := rt.cell 2 _ rfl
  have yt3 := rt.cell 3 _ rfl
  go_wp2_with fail
  refine (unhide P1 _ (hE.on bel)).mono ?_
  rintro e v7 ⟨rfl, hb⟩
  replace r0 := r0.on' hb
  replace rt := rt.on' hb
  replace rb := rb.on' hb
  replace bel := Below.then bel hb
  clear eV4 rtc0 rtc1 rtc2 rtc3 eV5 rbc3 srbc6 srbf6 eV6 yt0 yt1 yt2 yt3
  clear hb
  have rtc0 := rt.cell 0 _ rfl
  have rtc1 := rt.cell 1 _ rfl
  have rtc2 := rt.cell 2 _ rfl
  have rtc3 := rt.cell 3 _ rfl
  go_wp2_with fail
  refine (unhide Q1 _ (hE.on bel)).mono ?_
  rintro e v8 ⟨rfl, hb⟩
  replace r0 := r0.on' hb
  replace rt := rt.on' hb
  replace rb := rb.on' hb
  replace bel := Below.then bel hb
  clear rtc0 rtc1 rtc2 rtc3
  clear hb
  have rbc0 := rb.cell 0 _ rfl
  have rbc1 := rb.cell 1 _ rfl
  have rbc2 := rb.cell 2 _ rfl
  have rbc3 := rb.cell 3 _ rfl
  go_wp2_with fail
  refine (unhide P2 _ (hE.on bel)).mono ?_
  rintro e v9 ⟨rfl, hb⟩
  replace r0 := r0.on' hb
  replace rt := rt.on' hb
  replace rb := rb.on' hb
  replace bel := Below.then bel hb
  clear rbc0 rbc1 rbc2 rbc3
  clear hb
  have rbc0 := rb.cell 0 _ rfl
  have rbc1 := rb.cell 1 _ rfl
  have rbc2 := rb.cell 2 _ rfl
  have rbc3 := rb.cell 3 _ rfl
  go_wp2_with fail
  refine (unhide Q2 _ (hE.on bel)).mono ?_
  rintro e v10 ⟨rfl, hb⟩
  replace r0 := r0.on' hb
  replace rt := rt.on' hb
  replace rb := rb.on' hb
  replace bel := Below.then bel hb
  clear rbc0 rbc1 rbc2 rbc3
  clear hb
  have r0c0 := r0.cell 0 _ rfl
  have r0c6 := r0.cell 6 _ rfl
  go_wp2_with fail
  go_ret
  exact ⟨rfl, bel⟩
set_option maxHeartbeats 8000000 in
set_option maxRecDepth 100000 in
theorem way_an_in (w : World) (hE : Ic.Env w) (a0 : Mk) (w0 : a0.Wf) (a1 : Int) (w1 : (Lit.int .u8 a1).wf = true) (a2 : Int) (hk : ¬ a0.kind % 4 < 2) (ht : ¬ a1 % 6 < 2) (hp : 0 ≤ a2 ∧ a2 ≤ 65535) :
    Calls Tryz.prog 8 #[a0.val, .int .u8 a1, .int .i64 a2] w fun e w' => e = .returned (.bool true) ∧ Below w.heap.size w w' := by
  obtain ⟨b0, b1⟩ := bounds_u8 w1
  have kr : a1.tmod 6 = a1 % 6 := Int.tmod_eq_emod_of_nonneg b0
  have kr2 : IntKind.u8.wrap (a1 % 6) = a1 % 6 := by rw [IntKind.wrap_u8]; omega
  obtain ⟨T, hT⟩ : ∃ T : Int, a1 % 6 = T := ⟨_, rfl⟩
  have T0 : 0 ≤ T := by omega
  have T1 : T ≤ 255 := by omega
  rw [hT] at kr kr2 ht
  have k4m : a0.kind.tmod 4 = a0.kind % 4 := Int.tmod_eq_emod_of_nonneg w0.kind.1
  have k4w : IntKind.u8.wrap (a0.kind % 4) = a0.kind % 4 := by rw [IntKind.wrap_u8]; omega
  obtain ⟨m, hm⟩ : ∃ m : Mk, (⟨a0.kind, a0.src, a0.dst, a0.sport, a0.dport, a0.flags, T, a0.body, a0.zero, a0.frm, a0.dest⟩ : Mk) = m := ⟨_, rfl⟩
  have wm : m.Wf := by rw [← hm]; exact ⟨w0.kind, w0.src, w0.dst, w0.sport, w0.dport, w0.flags, by show 0 ≤ T ∧ T ≤ 255; omega, w0.body, w0.frm, w0.dest⟩
  have hmk : ¬ m.kind % 4 < 2 := by rw [← hm]; exact hk
  have sz := (frame_size wm).2
  have mt : m.ttl = T := by rw [← hm]
  have i3 : prtB 3 = true := prt_in (by decide)
  have i4 : prtB 4 = true := prt_in (by decide)
  have ip : prtB a2 = true := prt_in hp
  have FA := hide (fun u => frame_any m u wm)
  have P1 := hide (fun u h => plain_any (frameS m) ⟨1, 2, 3, 4⟩ u (by omega) (u32s 1 2 (by decide)) h)
  have P2 := hide (fun u h => plain_any (frameS m) ⟨1, 2, 3, a2⟩ u (by omega) (u32s 1 2 (by decide)) h)
  have Q1 := hide (fun u h => about_any (frameS m) 1 2 ⟨1, 2, 3, 4⟩ u (by omega) (u32s 1 2 (by decide)).1 (u32s 1 2 (by decide)).2 (u32s 1 2 (by decide)) h)
  have Q2 := hide (fun u h => about_any (frameS m) 1 2 ⟨1, 2, 3, a2⟩ u (by omega) (u32s 1 2 (by decide)).1 (u32s 1 2 (by decide)).2 (u32s 1 2 (by decide)) h)
  have E1 := err_about wm hmk ⟨1, 2, 3, 4⟩ ⟨#[]⟩
  have E2 := err_about wm hmk ⟨1, 2, 3, a2⟩ ⟨#[]⟩
  rw [mt, err_of i3 i4, if_neg ht, Ps.app_nil] at E1
  rw [mt, err_of i3 ip, if_neg ht, Ps.app_nil] at E2
  have D1 := (about_no_plain wm hmk ⟨1, 2, 3, 4⟩ ⟨#[]⟩).1
  have D2 := (about_no_plain wm hmk ⟨1, 2, 3, a2⟩ ⟨#[]⟩).1
  rw [Ps.app_nil] at D1 D2
  rw [E1] at Q1
  rw [E2] at Q2
  rw [D1] at P1
  rw [D2] at P2
  clear E1 E2 D1 D2
  generalize plainS (frameS m) ⟨1, 2, 3, 4⟩ = x1 at *
  generalize plainS (frameS m) ⟨1, 2, 3, a2⟩ = x2 at *
  generalize aboutS (frameS m) 1 2 ⟨1, 2, 3, 4⟩ = x3 at *
  generalize aboutS (frameS m) 1 2 ⟨1, 2, 3, a2⟩ = x4 at *
  generalize frameS m = F at *
  rw [← hm] at FA
  clear mt sz hmk wm hm i3 i4 ip
  obtain ⟨q0, q1⟩ := hp
  have n1 : decide (a2 < 0) = false := by simp; omega
  have n2 : decide (65535 < a2) = false := by simp; omega
  have KE := hide (fun u h => examples_any u h)
  have r0 := row_new w a0.cells 25
  have bel := alloc_on' w (.cells a0.cells.toArray 25)
  go_enter Tryz.func8, Tryz.ntmps8
  have r0c0 := r0.cell 0 _ rfl
  have r0c1 := r0.cell 1 _ rfl
  have r0c2 := r0.cell 2 _ rfl
  have r0c3 := r0.cell 3 _ rfl
  have r0c4 := r0.cell 4 _ rfl
  have r0c5 := r0.cell 5 _ rfl
  have r0c6 := r0.cell 6 _ rfl
  have r0c7 := r0.cell 7 _ rfl
  have r0c8 := r0.cell 8 _ rfl
  have r0c9 := r0.cell 9 _ rfl
  have r0c10 := r0.cell 10 _ rfl
  go_wp2_with fail
  refine (unhide KE _ (hE.on bel)).mono ?_
  rintro e v1 ⟨rfl, hb⟩
  replace r0 := r0.on' hb
  replace bel := Below.then bel hb
  clear r0c0 r0c1 r0c2 r0c3 r0c4 r0c5 r0c6 r0c7 r0c8 r0c9 r0c10
  clear hb
  have k0c6 := r0.cell 6 _ rfl
  have sr0c2 := r0.cell 6 _ rfl
  have sr0f2 := r0.free 6
  replace r0 := r0.set 6 (.int .u8 T)
  replace bel := bel.setCell (p := ⟨w.heap.size, 6, none⟩) (show w.heap.size ≤ w.heap.size by omega) (.int .u8 T)
  obtain ⟨V2, eV2⟩ : ∃ V, v1.setCell ⟨w.heap.size, 6, none⟩ (.int .u8 T) = V := ⟨_, rfl⟩
  rw [eV2] at r0 bel
  replace r0 : Row V2 w.heap.size ([.int .u8 a0.kind, .int .u32 a0.src, .int .u32 a0.dst, .int .u16 a0.sport, .int .u16 a0.dport, .int .u8 a0.flags, .int .u8 T, .string a0.body, .bool a0.zero, .int .u32 a0.frm, .int .u32 a0.dest]) := r0
  have r0c0 := r0.cell 0 _ rfl
  have r0c1 := r0.cell 1 _ rfl
  have r0c2 := r0.cell 2 _ rfl
  have r0c3 := r0.cell 3 _ rfl
  have r0c4 := r0.cell 4 _ rfl
  have r0c5 := r0.cell 5 _ rfl
  have r0c6 := r0.cell 6 _ rfl
  have r0c7 := r0.cell 7 _ rfl
  have r0c8 := r0.cell 8 _ rfl
  have r0c9 := r0.cell 9 _ rfl
  have r0c10 := r0.cell 10 _ rfl
  go_wp2_with fail
  refine (unhide FA _).mono ?_
  rintro e v3 ⟨rfl, hb⟩
  replace r0 := r0.on' hb
  replace bel := Below.then bel hb
  clear k0c6 sr0c2 sr0f2 eV2 r0c0 r0c1 r0c2 r0c3 r0c4 r0c5 r0c6 r0c7 r0c8 r0c9 r0c10
  clear hb
  have lert := bel.size
  have ltr0rt := r0.lt
  have nn := alloc_on' v3 (.cells #[.int .u32 1, .int .u32 2, .int .i64 3, .int .i64 4] 27)
  have rt := row_new v3 [.int .u32 1, .int .u32 2, .int .i64 3, .int .i64 4] 27
  obtain ⟨V4, eV4⟩ : ∃ V, v3.alloc (.cells #[.int .u32 1, .int .u32 2, .int .i64 3, .int .i64 4] 27) = V := ⟨_, rfl⟩
  rw [eV4] at nn rt
  replace r0 := r0.on' nn
  replace bel := Below.then bel nn
  clear nn
  have rtc0 := rt.cell 0 _ rfl
  have rtc1 := rt.cell 1 _ rfl
  have rtc2 := rt.cell 2 _ rfl
  have rtc3 := rt.cell 3 _ rfl
  have lerb := bel.size
  have ltr0rb := r0.lt
  have ltrtrb := rt.lt
  have nn := alloc_on' V4 (.cells #[.int .u32 1, .int .u32 2, .int .i64 3, .int .i64 4] 27)
  have rb := row_new V4 [.int .u32 1, .int .u32 2, .int .i64 3, .int .i64 4] 27
  obtain ⟨V5, eV5⟩ : ∃ V, V4.alloc (.cells #[.int .u32 1, .int .u32 2, .int .i64 3, .int .i64 4] 27) = V := ⟨_, rfl⟩
  rw [eV5] at nn rb
  replace r0 := r0.on' nn
  replace rt := rt.on' nn
  replace bel := Below.then bel nn
  clear nn
  have rbc3 := rb.cell 3 _ rfl
  have srbc6 := rb.cell 3 _ rfl
  have srbf6 := rb.free 3
  replace r0 := r0.other (b := V4.heap.size) (by omega) 3 (.int .i64 a2)
  replace rt := rt.other (b := V4.heap.size) (by omega) 3 (.int .i64 a2)
  replace rb := rb.set 3 (.int .i64 a2)
  replace bel := bel.setCell (p := ⟨V4.heap.size, 3, none⟩) (show w.heap.size ≤ V4.heap.size by omega) (.int .i64 a2)
  obtain ⟨V6, eV6⟩ : ∃ V, V5.setCell ⟨V4.heap.size, 3, none⟩ (.int .i64 a2) = V := ⟨_, rfl⟩
  rw [eV6] at r0 rt rb bel
  replace rb : Row V6 V4.heap.size ([.int .u32 1, .int .u32 2, .int .i64 3, .int .i64 a2]) := rb
  have yt0 := rt.cell 0 _ rfl
  have yt1 := rt.cell 1 _ rfl
  have yt2 := rt.cell 2 _ rfl
  have yt3 := rt.cell 3 _ rfl
  go_wp2_with fail
  refine (unhide P1 _ (hE.on bel)).mono ?_
  rintro e v7 ⟨rfl, hb⟩
  replace r0 := r0.on' hb
  replace rt := rt.on' hb
  replace rb := rb.on' hb
  replace bel := Below.then bel hb
  clear eV4 rtc0 rtc1 rtc2 rtc3 eV5 rbc3 srbc6 srbf6 eV6 yt0 yt1 yt2 yt3
  clear hb
  have rtc0 := rt.cell 0 _ rfl
  have rtc1 := rt.cell 1 _ rfl
  have rtc2 := rt.cell 2 _ rfl
  have rtc3 := rt.cell 3 _ rfl
  go_wp2_with fail
  refine (unhide Q1 _ (hE.on bel)).mono ?_
  rintro e v8 ⟨rfl, hb⟩
  replace r0 := r0.on' hb
  replace rt := rt.on' hb
  replace rb := rb.on' hb
  replace bel := Below.then bel hb
  clear rtc0 rtc1 rtc2 rtc3
  clear hb
  have rbc0 := rb.cell 0 _ rfl
  have rbc1 := rb.cell 1 _ rfl
  have rbc2 := rb.cell 2 _ rfl
  have rbc3 := rb.cell 3 _ rfl
  go_wp2_with fail
  refine (unhide P2 _ (hE.on bel)).mono ?_
  rintro e v9 ⟨rfl, hb⟩
  replace r0 := r0.on' hb
  replace rt := rt.on' hb
  replace rb := rb.on' hb
  replace bel := Below.then bel hb
  clear rbc0 rbc1 rbc2 rbc3
  clear hb
  have rbc0 := rb.cell 0 _ rfl
  have rbc1 := rb.cell 1 _ rfl
  have rbc2 := rb.cell 2 _ rfl
  have rbc3 := rb.cell 3 _ rfl
  go_wp2_with fail
  refine (unhide Q2 _ (hE.on bel)).mono ?_
  rintro e v10 ⟨rfl, hb⟩
  replace r0 := r0.on' hb
  replace rt := rt.on' hb
  replace rb := rb.on' hb
  replace bel := Below.then bel hb
  clear rbc0 rbc1 rbc2 rbc3
  clear hb
  have r0c0 := r0.cell 0 _ rfl
  have r0c6 := r0.cell 6 _ rfl
  go_wp2_with fail
  go_ret
  exact ⟨rfl, bel⟩
set_option maxHeartbeats 8000000 in
set_option maxRecDepth 100000 in
theorem walk (w : World) (hE : Ic.Env w) (a0 : Mk) (w0 : a0.Wf) (a1 : Int) (w1 : (Lit.int .u8 a1).wf = true) (a2 : Int) (w2 : (Lit.int .i64 a2).wf = true) :
    Calls Tryz.prog 8 #[a0.val, .int .u8 a1, .int .i64 a2] w fun e w' => e = .returned (.bool true) ∧ Below w.heap.size w w' := by
  by_cases hk : a0.kind % 4 < 2
  · by_cases ht : a1 % 6 < 2
    · by_cases h1 : a2 < 0
      · exact way_po_lo w hE a0 w0 a1 w1 a2 hk ht h1
      · by_cases h2 : 65535 < a2
        · exact way_po_hi w hE a0 w0 a1 w1 a2 hk ht h2
        · exact way_po_in w hE a0 w0 a1 w1 a2 hk ht ⟨by omega, by omega⟩
    · by_cases h1 : a2 < 0
      · exact way_pn_lo w hE a0 w0 a1 w1 a2 hk ht h1
      · by_cases h2 : 65535 < a2
        · exact way_pn_hi w hE a0 w0 a1 w1 a2 hk ht h2
        · exact way_pn_in w hE a0 w0 a1 w1 a2 hk ht ⟨by omega, by omega⟩
  · by_cases ht : a1 % 6 < 2
    · by_cases h1 : a2 < 0
      · exact way_ao_lo w hE a0 w0 a1 w1 a2 hk ht h1
      · by_cases h2 : 65535 < a2
        · exact way_ao_hi w hE a0 w0 a1 w1 a2 hk ht h2
        · exact way_ao_in w hE a0 w0 a1 w1 a2 hk ht ⟨by omega, by omega⟩
    · by_cases h1 : a2 < 0
      · exact way_an_lo w hE a0 w0 a1 w1 a2 hk ht h1
      · by_cases h2 : 65535 < a2
        · exact way_an_hi w hE a0 w0 a1 w1 a2 hk ht h2
        · exact way_an_in w hE a0 w0 a1 w1 a2 hk ht ⟨by omega, by omega⟩

theorem reads (os : Os) {H : Type} (enc : TypeId × Value → H) : DataW.whole enc Tryz.prog ((World.laidAll Tryz.prog os Rows.patchBackRow.laid).forCall (fun _ _ => 0) ⟨#[], #[.agg #[.int .u8 0, .int .u32 0, .int .u32 0, .int .u16 0, .int .u16 0, .int .u8 0, .int .u8 0, .string ByteArray.empty, .bool false, .int .u32 0, .int .u32 0], .int .u8 0, .int .i64 0], []⟩).memory Tryz.f8.params.toList Rows.patchRefusesSpec.vars false (#[.agg #[.int .u8 0, .int .u32 0, .int .u32 0, .int .u16 0, .int .u16 0, .int .u8 0, .int .u8 0, .string ByteArray.empty, .bool false, .int .u32 0, .int .u32 0], .int .u8 0, .int .i64 0] : Array Value).toList 8 = some ([.agg [.lit (.int .u8 0), .lit (.int .u32 0), .lit (.int .u32 0), .lit (.int .u16 0), .lit (.int .u16 0), .lit (.int .u8 0), .lit (.int .u8 0), .lit (.string []), .lit (.bool false), .lit (.int .u32 0), .lit (.int .u32 0)], .lit (.int .u8 0), .lit (.int .i64 0)], [], []) := by kernel_rfl
set_option maxRecDepth 100000 in
theorem lifted (os : Os) (started : os.Started) (H : Type) (enc : TypeId × Value → H) (F : Stop.Interp) :
    ReturnsInHanded {} Tryz.checked os 8 .any ((OpenSpec.ofChange Rows.patchRefusesSpec).preRow enc Tryz.prog Tryz.f8 Rows.patchRefusesRow.domain false Rows.patchRefusesRow.laid) (((OpenSpec.ofChange Rows.patchRefusesSpec).at F).post enc Tryz.prog Tryz.f8 false true false false) := by
  refine returnsInHanded_of_row (C := Tryz.checked) (s := (OpenSpec.ofChange Rows.patchRefusesSpec)) own started (by kernel_rfl) Tryz.func8
    (witness_row_at (enc := enc) (C := Tryz.checked) false (World.laidAll Tryz.prog os Rows.patchBackRow.laid) #[.agg #[.int .u8 0, .int .u32 0, .int .u32 0, .int .u16 0, .int .u16 0, .int .u8 0, .int .u8 0, .string ByteArray.empty, .bool false, .int .u32 0, .int .u32 0], .int .u8 0, .int .i64 0] (World.laidAll_os _ _ _) (by kernel_rfl) (by kernel_rfl) (by kernel_rfl)
      (OpenSpec.preRow_of_cond 8 (reads os enc) (by kernel_rfl) (fun k hk => by cases hk) (by kernel_rfl) (laid_met os _))) ?_
  intro W base args ds gs before hval0 hW _ hcond hsz hL _ _
  have hval : ∀ (j : Nat) t v, Tryz.f8.params[j]? = some t → args[j]? = some v → Value.okWide Tryz.prog W .any base t v := hval0
  have hW' := hW
  obtain ⟨p, q, hA0, hV, rfl, hfz, hnd⟩ := hW
  have hA : DataW.TrodAll enc Tryz.prog W 0 (fun _ => true) true Tryz.f8.params.toList args.toList ds p := hA0
  rw [Tryz.params8] at hA hval
  obtain ⟨v0, vs0, d0, ds0, p0, q0, hargs, rfl, rfl, h0, r0⟩ := trodAll_cons hA
  obtain ⟨v1, vs1, d1, ds1, p1, q1, rfl, rfl, rfl, h1, r1⟩ := trodAll_cons r0
  obtain ⟨v2, vs2, d2, ds2, p2, q2, rfl, rfl, rfl, h2, r2⟩ := trodAll_cons r1
  obtain ⟨rfl, rfl, rfl⟩ := trodAll_nil r2
  obtain rfl : args = #[v0, v1, v2] := by cases args; simp_all
  obtain ⟨rfl, rfl⟩ := trodVars_none hV
  obtain ⟨a0, rfl, rfl, rfl, f0⟩ := open_head (hval 0 25 v0 rfl rfl) h0
  obtain ⟨a1, rfl, rfl, rfl, w1⟩ := open_int Tryz.underlying5 (hval 1 5 v1 rfl rfl) h1
  obtain ⟨a2, rfl, rfl, rfl, w2⟩ := open_int Tryz.underlying3 (hval 2 3 v2 rfl rfl) h2
  clear hA0 hval0
  simp only [List.append_nil] at hW'
  have w0 : a0.Wf := f0.wf (sized_head hsz (j := 0) rfl rfl)
  refine (walk W (env_of hL) a0 w0 a1 w1 a2 w2).mono fun e W' ⟨he, bel⟩ => ?_
  subst he
  exact ⟨_, rfl, _, _, _, [], _, [], hW', (trodAll_cons_mk (shut_bool Tryz.underlying4 _) trodAll_mk0), (trodAll_cons_mk (shut_head a0 f0) (trodAll_cons_mk (shut_int Tryz.underlying5 w1) (trodAll_cons_mk (shut_int Tryz.underlying3 w2) trodAll_mk0))), rfl, bel.frame _, fun h => by cases h⟩

theorem over : Rows.patchRefusesRow.holds Tryz.pinned (OpenSpec.ofChange Rows.patchRefusesSpec) :=
  OpenClaim.holds_of_cond 8 Tryz.f8 rfl rfl rfl rfl rfl rfl rfl ⟨rfl, rfl, rfl, rfl, rfl⟩ rfl rfl rfl rfl rfl (by kernel_rfl) Tryz.func8 (by kernel_rfl)
    (of_decide_eq_true (by kernel_rfl)) (by unfold Func.isWrapper; first | (rw [if_pos (by decide +kernel)]; kernel_rfl) | (rw [if_neg (by decide +kernel)]; exact ⟨rfl, rfl⟩))
    (fun os started H enc _ F => by rw [OpenClaim.pre_eq_preRow]; exact lifted os started H enc F)

/-- No parameter wants a stand-in; the program's own looks are off. -/
theorem plain (f : FuncId) (fn : Func) (hf : Tryz.pinned.checked.prog.funcNamed Rows.patchRefusesRow.func = some f) (hfn : Tryz.pinned.checked.prog.funcs[f]? = some fn) :
    false = Tryz.pinned.checked.prog.looks [] ∧ ∀ (j : Nat) t, fn.params[j]? = some t → Tryz.pinned.checked.prog.wantsStandIn t = false := by
  obtain rfl : f = 8 := Option.some.inj ((show Tryz.prog.funcNamed Rows.patchRefusesRow.func = some 8 by kernel_rfl).symm.trans hf) |>.symm
  obtain rfl : fn = Tryz.f8 := (Option.some.inj (Tryz.func8.symm.trans hfn)).symm
  refine ⟨by kernel_rfl, fun j t ht => ?_⟩
  rw [Tryz.params8] at ht
  have hm : t ∈ [25, 5, 3] := by simpa using Array.mem_of_getElem? ht
  have hall : ([25, 5, 3].all fun u => !Tryz.prog.wantsStandIn u) = true := by kernel_rfl
  exact (show Tryz.prog.wantsStandIn t = false by simpa using List.all_eq_true.1 hall t hm)

theorem proved : Rows.PatchRefusesCardSaid :=
  Claim7.holds_tied_plain_at .later [] _ _ _ _ over (fun _ h => by cases h) (by kernel_rfl) (fun _ h => by cases h) patchRefuses_row_tie rfl ⟨rfl, rfl⟩ (by kernel_rfl) rfl plain (by kernel_rfl)
#print axioms proved
end Go.Proofs.YtpjaajeojiaeiaaGreatDoor.patchRefuses
