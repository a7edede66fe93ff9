/- PacketTells: a packet that is made says whose it is, whatever stands behind it; what is about another one says whose that is; under the given ties of the package's listed variables. -/
import Derived.Test.YtinllnaekcifjaaDoorPkLaidD
import Derived.Test.YtinllnaekcifjaaDoorPkOpM
import Derived.Test.YtinllnaekcifjaaDoorPkEx
import Derived.Test.YtinllnaekcifjaaDoorPkKey
namespace Go.Proofs.YtinllnaekcifjaaDoor.packetTells
open Go.ChangeShapes Go.WideShapes Go.ChangeAt Go.RowKit
open Go.ChangeMaps (open_string shut_string)
open MO
set_option linter.unusedVariables false
set_option maxHeartbeats 4000000 in
set_option maxRecDepth 100000 in
theorem walk (w : World) (hE : Ic.Env w) (a0 : Mk) (w0 : a0.Wf) (a1 : ByteArray) (z1 : a1.size ≤ 140737488355328) :
    Calls Tryd.prog 5 #[a0.val, .string a1] w fun e w' => e = .returned (.bool true) ∧ Below w.heap.size w w' := by
  have KE := hide (fun u h => examples_any u h)
  have FA := hide (fun u => frame_any a0 u w0)
  have sz := frame_size w0
  have CA := hide (fun u h => classify_any (frameS a0 ++ a1) u (by rw [ByteArray.size_append]; omega) h)
  have ad := add_run' (frameS a0) a1 (by omega) (by omega)
  have k3 : IntKind.i64.wrap a0.sport = a0.sport := Oct.wraps_i64 _ w0.sport.1 (by have := w0.sport.2; omega)
  have k4 : IntKind.i64.wrap a0.dport = a0.dport := Oct.wraps_i64 _ w0.dport.1 (by have := w0.dport.2; omega)
  have kt : IntKind.i64.wrap a0.ttl = a0.ttl := Oct.wraps_i64 _ w0.ttl.1 (by have := w0.ttl.2; omega)
  have kf : a0.flags.tmod 64 = a0.flags % 64 := Int.tmod_eq_emod_of_nonneg w0.flags.1
  have kf2 : IntKind.u8.wrap (a0.flags % 64) = a0.flags % 64 := by rw [IntKind.wrap_u8]; omega
  have kf3 : IntKind.i64.wrap (a0.flags % 64) = a0.flags % 64 := Oct.wraps_i64 _ (by omega) (by omega)
  have k2 : a0.kind.tmod 2 = a0.kind % 2 := Int.tmod_eq_emod_of_nonneg w0.kind.1
  have k2w : IntKind.u8.wrap (a0.kind % 2) = a0.kind % 2 := by rw [IntKind.wrap_u8]; omega
  have k4m : a0.kind.tmod 4 = a0.kind % 4 := Int.tmod_eq_emod_of_nonneg w0.kind.1
  have k4w : IntKind.u8.wrap (a0.kind % 4) = a0.kind % 4 := by rw [IntKind.wrap_u8]; omega
  obtain ⟨sp0, sp1⟩ := w0.sport
  obtain ⟨dp0, dp1⟩ := w0.dport
  obtain ⟨fl0, fl1⟩ := w0.flags
  obtain ⟨tt0, tt1⟩ := w0.ttl
  obtain ⟨kd0, kd1⟩ := w0.kind
  have HE := hide hE
  clear hE
  have r0 := row_new w a0.cells 33
  have b0 := alloc_on w (.cells a0.cells.toArray 33)
  have HR := hide (And.intro r0 b0)
  clear r0 b0
  by_cases hk2 : a0.kind % 2 = 1
  · by_cases hk4 : a0.kind % 4 < 2
    · skip
      have hpr : pr a0 = 17 := if_pos hk2
      have hT : clsE (frameS a0 ++ a1) = 0 ∧ clsP (frameS a0 ++ a1) = ⟨1, 20, (frameS a0).size, ⟨17, a0.src, a0.dst, a0.sport, a0.dport⟩, 0, a0.ttl, a0.src, a0.dst, 0, 0⟩ := by
        have h := tells_plain w0 hk4 a1
        unfold ends at h
        rw [hpr] at h
        exact h
      rw [hT.1, hT.2] at CA
      have t2 : (a0.kind % 2 == 1) = true := by simpa using hk2
      have t4 : decide (a0.kind % 4 < 2) = true := by simpa using hk4
      have HK := hide (And.intro hk2 hk4)
      clear hT hk2 hk4 hpr
      generalize hnF : ((frameS a0).size : Int) = nF at *
      generalize frameS a0 ++ a1 = FM at *
      generalize frameS a0 = FR at *
      clear sz w0 z1
      go_enter Tryd.func5, Tryd.ntmps5
      go_wp2_with fail
      refine (unhide KE _ ((unhide HE).on (unhide HR).2)).mono ?_
      rintro e w1 ⟨rfl, hb⟩
      obtain ⟨r0, b0⟩ := unhide HR
      have r1 := r0.on' hb
      have b1 := Below.then b0 hb
      have c0 := r1.cell 0 _ rfl
      have c1 := r1.cell 1 _ rfl
      have c2 := r1.cell 2 _ rfl
      have c3 := r1.cell 3 _ rfl
      have c4 := r1.cell 4 _ rfl
      have c5 := r1.cell 5 _ rfl
      have c6 := r1.cell 6 _ rfl
      have c7 := r1.cell 7 _ rfl
      have c8 := r1.cell 8 _ rfl
      have c9 := r1.cell 9 _ rfl
      have c10 := r1.cell 10 _ rfl
      have HR := hide (And.intro r1 b1)
      clear r0 b0 r1 b1 hb
      go_wp2_with fail
      refine (unhide FA _).mono ?_
      rintro e w2 ⟨rfl, hb⟩
      clear c0 c1 c2 c3 c4 c5 c6 c7 c8 c9 c10
      obtain ⟨r1, b1⟩ := unhide HR
      have r2 := r1.on' hb
      have b2 := Below.then b1 hb
      have HR := hide (And.intro r2 b2)
      clear r1 b1 r2 b2 hb
      go_wp2_with fail
      refine (unhide CA _ ((unhide HE).on (unhide HR).2)).mono ?_
      rintro e w3 ⟨rfl, hb⟩
      obtain ⟨r2, b2⟩ := unhide HR
      have r3 := r2.on' hb
      have b3 := Below.then b2 hb
      have hlt : w.heap.size < w3.heap.size := r3.lt
      have hlt2 : w.heap.size < w3.heap.size + 1 := by omega
      have hne : w.heap.size ≠ w3.heap.size := by omega
      have hne2 : w.heap.size ≠ w3.heap.size + 1 := by omega
      have c0 := r3.cell 0 _ rfl
      have c1 := r3.cell 1 _ rfl
      have c2 := r3.cell 2 _ rfl
      have c3 := r3.cell 3 _ rfl
      have c4 := r3.cell 4 _ rfl
      have c5 := r3.cell 5 _ rfl
      have c6 := r3.cell 6 _ rfl
      have c9 := r3.cell 9 _ rfl
      have c10 := r3.cell 10 _ rfl
      have HB := hide (Below.then (Below.then b3 (alloc_on w3 (.cells (Pk.cells ⟨1, 20, nF, ⟨17, a0.src, a0.dst, a0.sport, a0.dport⟩, 0, a0.ttl, a0.src, a0.dst, 0, 0⟩).toArray 36))) (alloc_on _ (.cells (Tp.cells ⟨17, a0.src, a0.dst, a0.sport, a0.dport⟩).toArray 24)))
      clear r2 b2 r3 b3 hb HR
      go_wp2_with fail
      go_ret
      exact ⟨rfl, unhide HB⟩
    · skip
      have hpr : pr a0 = 17 := if_pos hk2
      have hT : clsE (frameS a0 ++ a1) = 0 ∧ clsP (frameS a0 ++ a1) = ⟨2, 20, (frameS a0).size, ⟨17, a0.src, a0.dst, a0.sport, a0.dport⟩, 0, a0.ttl, a0.frm, a0.dest, 28, 48⟩ := by
        have h := tells_about w0 hk4 a1
        unfold ends at h
        rw [hpr] at h
        exact h
      rw [hT.1, hT.2] at CA
      have t2 : (a0.kind % 2 == 1) = true := by simpa using hk2
      have t4 : decide (a0.kind % 4 < 2) = false := by simpa using hk4
      have HK := hide (And.intro hk2 hk4)
      clear hT hk2 hk4 hpr
      generalize hnF : ((frameS a0).size : Int) = nF at *
      generalize frameS a0 ++ a1 = FM at *
      generalize frameS a0 = FR at *
      clear sz w0 z1
      go_enter Tryd.func5, Tryd.ntmps5
      go_wp2_with fail
      refine (unhide KE _ ((unhide HE).on (unhide HR).2)).mono ?_
      rintro e w1 ⟨rfl, hb⟩
      obtain ⟨r0, b0⟩ := unhide HR
      have r1 := r0.on' hb
      have b1 := Below.then b0 hb
      have c0 := r1.cell 0 _ rfl
      have c1 := r1.cell 1 _ rfl
      have c2 := r1.cell 2 _ rfl
      have c3 := r1.cell 3 _ rfl
      have c4 := r1.cell 4 _ rfl
      have c5 := r1.cell 5 _ rfl
      have c6 := r1.cell 6 _ rfl
      have c7 := r1.cell 7 _ rfl
      have c8 := r1.cell 8 _ rfl
      have c9 := r1.cell 9 _ rfl
      have c10 := r1.cell 10 _ rfl
      have HR := hide (And.intro r1 b1)
      clear r0 b0 r1 b1 hb
      go_wp2_with fail
      refine (unhide FA _).mono ?_
      rintro e w2 ⟨rfl, hb⟩
      clear c0 c1 c2 c3 c4 c5 c6 c7 c8 c9 c10
      obtain ⟨r1, b1⟩ := unhide HR
      have r2 := r1.on' hb
      have b2 := Below.then b1 hb
      have HR := hide (And.intro r2 b2)
      clear r1 b1 r2 b2 hb
      go_wp2_with fail
      refine (unhide CA _ ((unhide HE).on (unhide HR).2)).mono ?_
      rintro e w3 ⟨rfl, hb⟩
      obtain ⟨r2, b2⟩ := unhide HR
      have r3 := r2.on' hb
      have b3 := Below.then b2 hb
      have hlt : w.heap.size < w3.heap.size := r3.lt
      have hlt2 : w.heap.size < w3.heap.size + 1 := by omega
      have hne : w.heap.size ≠ w3.heap.size := by omega
      have hne2 : w.heap.size ≠ w3.heap.size + 1 := by omega
      have c0 := r3.cell 0 _ rfl
      have c1 := r3.cell 1 _ rfl
      have c2 := r3.cell 2 _ rfl
      have c3 := r3.cell 3 _ rfl
      have c4 := r3.cell 4 _ rfl
      have c5 := r3.cell 5 _ rfl
      have c6 := r3.cell 6 _ rfl
      have c9 := r3.cell 9 _ rfl
      have c10 := r3.cell 10 _ rfl
      have HB := hide (Below.then (Below.then b3 (alloc_on w3 (.cells (Pk.cells ⟨2, 20, nF, ⟨17, a0.src, a0.dst, a0.sport, a0.dport⟩, 0, a0.ttl, a0.frm, a0.dest, 28, 48⟩).toArray 36))) (alloc_on _ (.cells (Tp.cells ⟨17, a0.src, a0.dst, a0.sport, a0.dport⟩).toArray 24)))
      clear r2 b2 r3 b3 hb HR
      go_wp2_with fail
      go_ret
      exact ⟨rfl, unhide HB⟩
  · by_cases hk4 : a0.kind % 4 < 2
    · skip
      have hpr : pr a0 = 6 := if_neg hk2
      have hT : clsE (frameS a0 ++ a1) = 0 ∧ clsP (frameS a0 ++ a1) = ⟨1, 20, (frameS a0).size, ⟨6, a0.src, a0.dst, a0.sport, a0.dport⟩, a0.flags % 64, a0.ttl, a0.src, a0.dst, 0, 0⟩ := by
        have h := tells_plain w0 hk4 a1
        unfold ends at h
        rw [hpr] at h
        exact h
      rw [hT.1, hT.2] at CA
      have t2 : (a0.kind % 2 == 1) = false := by simpa using hk2
      have t4 : decide (a0.kind % 4 < 2) = true := by simpa using hk4
      have HK := hide (And.intro hk2 hk4)
      clear hT hk2 hk4 hpr
      generalize hnF : ((frameS a0).size : Int) = nF at *
      generalize frameS a0 ++ a1 = FM at *
      generalize frameS a0 = FR at *
      clear sz w0 z1
      go_enter Tryd.func5, Tryd.ntmps5
      go_wp2_with fail
      refine (unhide KE _ ((unhide HE).on (unhide HR).2)).mono ?_
      rintro e w1 ⟨rfl, hb⟩
      obtain ⟨r0, b0⟩ := unhide HR
      have r1 := r0.on' hb
      have b1 := Below.then b0 hb
      have c0 := r1.cell 0 _ rfl
      have c1 := r1.cell 1 _ rfl
      have c2 := r1.cell 2 _ rfl
      have c3 := r1.cell 3 _ rfl
      have c4 := r1.cell 4 _ rfl
      have c5 := r1.cell 5 _ rfl
      have c6 := r1.cell 6 _ rfl
      have c7 := r1.cell 7 _ rfl
      have c8 := r1.cell 8 _ rfl
      have c9 := r1.cell 9 _ rfl
      have c10 := r1.cell 10 _ rfl
      have HR := hide (And.intro r1 b1)
      clear r0 b0 r1 b1 hb
      go_wp2_with fail
      refine (unhide FA _).mono ?_
      rintro e w2 ⟨rfl, hb⟩
      clear c0 c1 c2 c3 c4 c5 c6 c7 c8 c9 c10
      obtain ⟨r1, b1⟩ := unhide HR
      have r2 := r1.on' hb
      have b2 := Below.then b1 hb
      have HR := hide (And.intro r2 b2)
      clear r1 b1 r2 b2 hb
      go_wp2_with fail
      refine (unhide CA _ ((unhide HE).on (unhide HR).2)).mono ?_
      rintro e w3 ⟨rfl, hb⟩
      obtain ⟨r2, b2⟩ := unhide HR
      have r3 := r2.on' hb
      have b3 := Below.then b2 hb
      have hlt : w.heap.size < w3.heap.size := r3.lt
      have hlt2 : w.heap.size < w3.heap.size + 1 := by omega
      have hne : w.heap.size ≠ w3.heap.size := by omega
      have hne2 : w.heap.size ≠ w3.heap.size + 1 := by omega
      have c0 := r3.cell 0 _ rfl
      have c1 := r3.cell 1 _ rfl
      have c2 := r3.cell 2 _ rfl
      have c3 := r3.cell 3 _ rfl
      have c4 := r3.cell 4 _ rfl
      have c5 := r3.cell 5 _ rfl
      have c6 := r3.cell 6 _ rfl
      have c9 := r3.cell 9 _ rfl
      have c10 := r3.cell 10 _ rfl
      have HB := hide (Below.then (Below.then b3 (alloc_on w3 (.cells (Pk.cells ⟨1, 20, nF, ⟨6, a0.src, a0.dst, a0.sport, a0.dport⟩, a0.flags % 64, a0.ttl, a0.src, a0.dst, 0, 0⟩).toArray 36))) (alloc_on _ (.cells (Tp.cells ⟨6, a0.src, a0.dst, a0.sport, a0.dport⟩).toArray 24)))
      clear r2 b2 r3 b3 hb HR
      go_wp2_with fail
      go_ret
      exact ⟨rfl, unhide HB⟩
    · skip
      have hpr : pr a0 = 6 := if_neg hk2
      have hT : clsE (frameS a0 ++ a1) = 0 ∧ clsP (frameS a0 ++ a1) = ⟨2, 20, (frameS a0).size, ⟨6, a0.src, a0.dst, a0.sport, a0.dport⟩, 0, a0.ttl, a0.frm, a0.dest, 28, 48⟩ := by
        have h := tells_about w0 hk4 a1
        unfold ends at h
        rw [hpr] at h
        exact h
      rw [hT.1, hT.2] at CA
      have t2 : (a0.kind % 2 == 1) = false := by simpa using hk2
      have t4 : decide (a0.kind % 4 < 2) = false := by simpa using hk4
      have HK := hide (And.intro hk2 hk4)
      clear hT hk2 hk4 hpr
      generalize hnF : ((frameS a0).size : Int) = nF at *
      generalize frameS a0 ++ a1 = FM at *
      generalize frameS a0 = FR at *
      clear sz w0 z1
      go_enter Tryd.func5, Tryd.ntmps5
      go_wp2_with fail
      refine (unhide KE _ ((unhide HE).on (unhide HR).2)).mono ?_
      rintro e w1 ⟨rfl, hb⟩
      obtain ⟨r0, b0⟩ := unhide HR
      have r1 := r0.on' hb
      have b1 := Below.then b0 hb
      have c0 := r1.cell 0 _ rfl
      have c1 := r1.cell 1 _ rfl
      have c2 := r1.cell 2 _ rfl
      have c3 := r1.cell 3 _ rfl
      have c4 := r1.cell 4 _ rfl
      have c5 := r1.cell 5 _ rfl
      have c6 := r1.cell 6 _ rfl
      have c7 := r1.cell 7 _ rfl
      have c8 := r1.cell 8 _ rfl
      have c9 := r1.cell 9 _ rfl
      have c10 := r1.cell 10 _ rfl
      have HR := hide (And.intro r1 b1)
      clear r0 b0 r1 b1 hb
      go_wp2_with fail
      refine (unhide FA _).mono ?_
      rintro e w2 ⟨rfl, hb⟩
      clear c0 c1 c2 c3 c4 c5 c6 c7 c8 c9 c10
      obtain ⟨r1, b1⟩ := unhide HR
      have r2 := r1.on' hb
      have b2 := Below.then b1 hb
      have HR := hide (And.intro r2 b2)
      clear r1 b1 r2 b2 hb
      go_wp2_with fail
      refine (unhide CA _ ((unhide HE).on (unhide HR).2)).mono ?_
      rintro e w3 ⟨rfl, hb⟩
      obtain ⟨r2, b2⟩ := unhide HR
      have r3 := r2.on' hb
      have b3 := Below.then b2 hb
      have hlt : w.heap.size < w3.heap.size := r3.lt
      have hlt2 : w.heap.size < w3.heap.size + 1 := by omega
      have hne : w.heap.size ≠ w3.heap.size := by omega
      have hne2 : w.heap.size ≠ w3.heap.size + 1 := by omega
      have c0 := r3.cell 0 _ rfl
      have c1 := r3.cell 1 _ rfl
      have c2 := r3.cell 2 _ rfl
      have c3 := r3.cell 3 _ rfl
      have c4 := r3.cell 4 _ rfl
      have c5 := r3.cell 5 _ rfl
      have c6 := r3.cell 6 _ rfl
      have c9 := r3.cell 9 _ rfl
      have c10 := r3.cell 10 _ rfl
      have HB := hide (Below.then (Below.then b3 (alloc_on w3 (.cells (Pk.cells ⟨2, 20, nF, ⟨6, a0.src, a0.dst, a0.sport, a0.dport⟩, 0, a0.ttl, a0.frm, a0.dest, 28, 48⟩).toArray 36))) (alloc_on _ (.cells (Tp.cells ⟨6, a0.src, a0.dst, a0.sport, a0.dport⟩).toArray 24)))
      clear r2 b2 r3 b3 hb HR
      go_wp2_with fail
      go_ret
      exact ⟨rfl, unhide HB⟩

theorem reads (os : Os) {H : Type} (enc : TypeId × Value → H) : DataW.whole enc Tryd.prog ((World.laidAll Tryd.prog os Rows.packetKeysRow.laid).forCall (fun _ _ => 0) ⟨#[], #[.agg #[.int .u8 0, .int .u32 0, .int .u32 0, .int .u16 0, .int .u16 0, .int .u8 0, .int .u8 0, .string ByteArray.empty, .bool false, .int .u32 0, .int .u32 0], .string ByteArray.empty], []⟩).memory Tryd.f5.params.toList Rows.packetTellsSpec.vars false (#[.agg #[.int .u8 0, .int .u32 0, .int .u32 0, .int .u16 0, .int .u16 0, .int .u8 0, .int .u8 0, .string ByteArray.empty, .bool false, .int .u32 0, .int .u32 0], .string ByteArray.empty] : Array Value).toList 8 = some ([.agg [.lit (.int .u8 0), .lit (.int .u32 0), .lit (.int .u32 0), .lit (.int .u16 0), .lit (.int .u16 0), .lit (.int .u8 0), .lit (.int .u8 0), .lit (.string []), .lit (.bool false), .lit (.int .u32 0), .lit (.int .u32 0)], .lit (.string [])], [], []) := by kernel_rfl
set_option maxRecDepth 100000 in
theorem lifted (os : Os) (started : os.Started) (H : Type) (enc : TypeId × Value → H) (F : Stop.Interp) :
    ReturnsInHanded {} Tryd.checked os 5 .any ((OpenSpec.ofChange Rows.packetTellsSpec).preRow enc Tryd.prog Tryd.f5 Rows.packetTellsRow.domain false Rows.packetTellsRow.laid) (((OpenSpec.ofChange Rows.packetTellsSpec).at F).post enc Tryd.prog Tryd.f5 false true false false) := by
  refine returnsInHanded_of_row (C := Tryd.checked) (s := (OpenSpec.ofChange Rows.packetTellsSpec)) own started (by kernel_rfl) Tryd.func5
    (witness_row_at (enc := enc) (C := Tryd.checked) false (World.laidAll Tryd.prog os Rows.packetKeysRow.laid) #[.agg #[.int .u8 0, .int .u32 0, .int .u32 0, .int .u16 0, .int .u16 0, .int .u8 0, .int .u8 0, .string ByteArray.empty, .bool false, .int .u32 0, .int .u32 0], .string ByteArray.empty] (World.laidAll_os _ _ _) (by kernel_rfl) (by kernel_rfl) (by kernel_rfl)
      (OpenSpec.preRow_of_cond 8 (reads os enc) (by kernel_rfl) (fun k hk => by cases hk) (by kernel_rfl) (laid_met os _))) ?_
  intro W base args ds gs before hval0 hW _ hcond hsz hL _ _
  have hval : ∀ (j : Nat) t v, Tryd.f5.params[j]? = some t → args[j]? = some v → Value.okWide Tryd.prog W .any base t v := hval0
  have hW' := hW
  obtain ⟨p, q, hA0, hV, rfl, hfz, hnd⟩ := hW
  have hA : DataW.TrodAll enc Tryd.prog W 0 (fun _ => true) true Tryd.f5.params.toList args.toList ds p := hA0
  rw [Tryd.params5] at hA hval
  obtain ⟨v0, vs0, d0, ds0, p0, q0, hargs, rfl, rfl, h0, r0⟩ := trodAll_cons hA
  obtain ⟨v1, vs1, d1, ds1, p1, q1, rfl, rfl, rfl, h1, r1⟩ := trodAll_cons r0
  obtain ⟨rfl, rfl, rfl⟩ := trodAll_nil r1
  obtain rfl : args = #[v0, v1] := by cases args; simp_all
  obtain ⟨rfl, rfl⟩ := trodVars_none hV
  obtain ⟨a0, rfl, rfl, rfl, f0⟩ := open_head (hval 0 33 v0 rfl rfl) h0
  obtain ⟨a1, rfl, rfl, rfl, w1⟩ := open_string Tryd.underlying9 (hval 1 9 v1 rfl rfl) h1
  clear hA0 hval0
  simp only [List.append_nil] at hW'
  have w0 : a0.Wf := f0.wf (sized_head hsz (j := 0) rfl rfl)
  have z1 : a1.size ≤ 140737488355328 := by
    have hq : a1.data.toList.length ≤ reachBytes := sized_string hsz (j := 1) (t := 9) rfl rfl
    have e : a1.data.toList.length = a1.size := by rw [Array.length_toList]; rfl
    rw [e] at hq
    exact Nat.le_trans hq (by decide)
  refine (walk W (env_of hL) a0 w0 a1 z1).mono fun e W' ⟨he, bel⟩ => ?_
  subst he
  exact ⟨_, rfl, _, _, _, [], _, [], hW', (trodAll_cons_mk (shut_bool Tryd.underlying4 _) trodAll_mk0), (trodAll_cons_mk (shut_head a0 f0) (trodAll_cons_mk (shut_string Tryd.underlying9 w1) trodAll_mk0)), rfl, bel.frame _, fun h => by cases h⟩

theorem over : Rows.packetTellsRow.holds Tryd.pinned (OpenSpec.ofChange Rows.packetTellsSpec) :=
  OpenClaim.holds_of_cond 5 Tryd.f5 rfl rfl rfl rfl rfl rfl rfl ⟨rfl, rfl, rfl, rfl, rfl⟩ rfl rfl rfl rfl rfl (by kernel_rfl) Tryd.func5 (by kernel_rfl)
    (of_decide_eq_true (by kernel_rfl)) (by unfold Func.isWrapper; first | (rw [if_pos (by decide +kernel)]; kernel_rfl) | (rw [if_neg (by decide +kernel)]; exact ⟨rfl, rfl⟩))
    (fun os started H enc _ F => by rw [OpenClaim.pre_eq_preRow]; exact lifted os started H enc F)

/-- No parameter wants a stand-in; the program's own looks are off. -/
theorem plain (f : FuncId) (fn : Func) (hf : Tryd.pinned.checked.prog.funcNamed Rows.packetTellsRow.func = some f) (hfn : Tryd.pinned.checked.prog.funcs[f]? = some fn) :
    false = Tryd.pinned.checked.prog.looks [] ∧ ∀ (j : Nat) t, fn.params[j]? = some t → Tryd.pinned.checked.prog.wantsStandIn t = false := by
  obtain rfl : f = 5 := Option.some.inj ((show Tryd.prog.funcNamed Rows.packetTellsRow.func = some 5 by kernel_rfl).symm.trans hf) |>.symm
  obtain rfl : fn = Tryd.f5 := (Option.some.inj (Tryd.func5.symm.trans hfn)).symm
  refine ⟨by kernel_rfl, fun j t ht => ?_⟩
  rw [Tryd.params5] at ht
  have hm : t ∈ [33, 9] := by simpa using Array.mem_of_getElem? ht
  have hall : ([33, 9].all fun u => !Tryd.prog.wantsStandIn u) = true := by kernel_rfl
  exact (show Tryd.prog.wantsStandIn t = false by simpa using List.all_eq_true.1 hall t hm)

theorem proved : Rows.PacketTellsCardSaid :=
  Claim7.holds_tied_plain_at .later [] _ _ _ _ over (fun _ h => by cases h) (by kernel_rfl) (fun _ h => by cases h) packetTells_row_tie rfl ⟨rfl, rfl⟩ (by kernel_rfl) rfl plain (by kernel_rfl)
#print axioms proved
end Go.Proofs.YtinllnaekcifjaaDoor.packetTells
