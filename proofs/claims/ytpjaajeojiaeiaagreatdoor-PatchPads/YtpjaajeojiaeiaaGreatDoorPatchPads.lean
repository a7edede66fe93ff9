/- PatchPads: what stands behind a packet's total goes, and changes nothing; under the given ties of the package's listed variables. -/
import Derived.Test.YtpjaajeojiaeiaaGreatDoorPpLaid
import Derived.Test.YtpjaajeojiaeiaaGreatDoorPkOpM
import Derived.Test.YtpjaajeojiaeiaaGreatDoorPpEx
import Derived.Test.YtpjaajeojiaeiaaGreatDoorPpLaw
namespace Go.Proofs.YtpjaajeojiaeiaaGreatDoor.patchPads
open Go.ChangeShapes Go.WideShapes Go.ChangeAt Go.RowKit
open Go.ChangeMaps (open_string shut_string)
open MO
set_option linter.unusedVariables false
theorem add_run9 (x y : ByteArray) (hx : x.size ≤ 140737488355328) (hy : y.size ≤ 140737488355328) : ∀ wx, (Op.stringOp .add x y).run Tryz.prog wx = .ok (.string (x ++ y)) wx := fun wx => run_string_add_sum (P := Tryz.prog) (w := wx) x y (by omega)
theorem u32s (a b : Int) (h : 0 ≤ a ∧ a ≤ 100 ∧ 0 ≤ b ∧ b ≤ 100) : Ps.U32 a ∧ Ps.U32 b := ⟨⟨by omega, by omega⟩, ⟨by omega, by omega⟩⟩
set_option maxHeartbeats 8000000 in
set_option maxRecDepth 100000 in
theorem walk (w : World) (hE : Ic.Env w) (a0 : Mk) (w0 : a0.Wf) (a1 : ByteArray) (z1 : a1.size ≤ 140737488355328) :
    Calls Tryz.prog 9 #[a0.val, .string a1] w fun e w' => e = .returned (.bool true) ∧ Below w.heap.size w w' := by
  obtain ⟨T, hT⟩ : ∃ T : Int, max a0.ttl 2 = T := ⟨_, rfl⟩
  have T0 : 2 ≤ T := by omega
  have T1 : T ≤ 255 := by have := w0.ttl.2; omega
  obtain ⟨m, hm⟩ : ∃ m : Mk, (⟨a0.kind, a0.src, a0.dst, a0.sport, a0.dport, a0.flags, T, a0.body, a0.zero, a0.frm, a0.dest⟩ : Mk) = m := ⟨_, rfl⟩
  have wm : m.Wf := by rw [← hm]; exact ⟨w0.kind, w0.src, w0.dst, w0.sport, w0.dport, w0.flags, by show 0 ≤ T ∧ T ≤ 255; omega, w0.body, w0.frm, w0.dest⟩
  have hl : 2 ≤ m.ttl := by rw [← hm]; exact T0
  have sz := (frame_size wm).2
  have FA := hide (fun u => frame_any m u wm)
  have P1 := hide (fun u h => plain_any (frameS m) ⟨1, 2, 3, 4⟩ u (by omega) (u32s 1 2 (by decide)) h)
  have P2 := hide (fun u h => plain_any (frameS m ++ a1) ⟨1, 2, 3, 4⟩ u (by rw [ByteArray.size_append]; omega) (u32s 1 2 (by decide)) h)
  have Q1 := hide (fun u h => about_any (frameS m) 5 6 ⟨1, 2, 3, 4⟩ u (by omega) (u32s 5 6 (by decide)).1 (u32s 5 6 (by decide)).2 (u32s 1 2 (by decide)) h)
  have Q2 := hide (fun u h => about_any (frameS m ++ a1) 5 6 ⟨1, 2, 3, 4⟩ u (by rw [ByteArray.size_append]; omega) (u32s 5 6 (by decide)).1 (u32s 5 6 (by decide)).2 (u32s 1 2 (by decide)) h)
  have ad := add_run9 (frameS m) a1 (by omega) (by omega)
  by_cases hk : m.kind % 4 < 2
  · skip
    have wt : (⟨1, 2, 3, 4⟩ : En).Wf := ⟨⟨by decide, by decide⟩, ⟨by decide, by decide⟩, by decide, by decide⟩
    have A1 := plain_made wm hk wt hl ⟨#[]⟩
    have A2 := plain_made wm hk wt hl a1
    have B1 := plain_no_about wm hk ⟨1, 2, 3, 4⟩ 5 6 ⟨#[]⟩
    have B2 := plain_no_about wm hk ⟨1, 2, 3, 4⟩ 5 6 a1
    rw [Ps.app_nil] at A1 B1
    rw [A1.1, A1.2] at P1
    rw [A2.1, A2.2] at P2
    rw [B1.1, B1.2] at Q1
    rw [B2.1, B2.2] at Q2
    clear A1 A2 B1 B2
    generalize frameS (turn m ⟨1, 2, 3, 4⟩ (m.ttl - 1)) = X at *
    generalize frameS m ++ a1 = FM at *
    generalize frameS m = F at *
    rw [← hm] at FA
    clear hk hl sz wm hm
    have KE := hide (fun u h => examples_any u h)
    have r0 := row_new w a0.cells 25
    have bel := alloc_on' w (.cells a0.cells.toArray 25)
    have HT := hide hT
    clear hT
    have hT := unhide HT
    go_enter Tryz.func9, Tryz.ntmps9
    have r0c0 := r0.cell 0 _ rfl
    have r0c1 := r0.cell 1 _ rfl
    have r0c2 := r0.cell 2 _ rfl
    have r0c3 := r0.cell 3 _ rfl
    have r0c4 := r0.cell 4 _ rfl
    have r0c5 := r0.cell 5 _ rfl
    have r0c6 := r0.cell 6 _ rfl
    have r0c7 := r0.cell 7 _ rfl
    have r0c8 := r0.cell 8 _ rfl
    have r0c9 := r0.cell 9 _ rfl
    have r0c10 := r0.cell 10 _ rfl
    go_wp2_with fail
    refine (unhide KE _ (hE.on bel)).mono ?_
    rintro e v1 ⟨rfl, hb⟩
    replace r0 := r0.on' hb
    replace bel := Below.then bel hb
    clear r0c0 r0c1 r0c2 r0c3 r0c4 r0c5 r0c6 r0c7 r0c8 r0c9 r0c10
    clear hb
    have k0c6 := r0.cell 6 _ rfl
    have sr0c2 := r0.cell 6 _ rfl
    have sr0f2 := r0.free 6
    replace r0 := r0.set 6 (.int .u8 T)
    replace bel := bel.setCell (p := ⟨w.heap.size, 6, none⟩) (show w.heap.size ≤ w.heap.size by omega) (.int .u8 T)
    obtain ⟨V2, eV2⟩ : ∃ V, v1.setCell ⟨w.heap.size, 6, none⟩ (.int .u8 T) = V := ⟨_, rfl⟩
    rw [eV2] at r0 bel
    replace r0 : Row V2 w.heap.size ([.int .u8 a0.kind, .int .u32 a0.src, .int .u32 a0.dst, .int .u16 a0.sport, .int .u16 a0.dport, .int .u8 a0.flags, .int .u8 T, .string a0.body, .bool a0.zero, .int .u32 a0.frm, .int .u32 a0.dest]) := r0
    have r0c0 := r0.cell 0 _ rfl
    have r0c1 := r0.cell 1 _ rfl
    have r0c2 := r0.cell 2 _ rfl
    have r0c3 := r0.cell 3 _ rfl
    have r0c4 := r0.cell 4 _ rfl
    have r0c5 := r0.cell 5 _ rfl
    have r0c6 := r0.cell 6 _ rfl
    have r0c7 := r0.cell 7 _ rfl
    have r0c8 := r0.cell 8 _ rfl
    have r0c9 := r0.cell 9 _ rfl
    have r0c10 := r0.cell 10 _ rfl
    go_wp2_with fail
    refine (unhide FA _).mono ?_
    rintro e v3 ⟨rfl, hb⟩
    replace r0 := r0.on' hb
    replace bel := Below.then bel hb
    clear k0c6 sr0c2 sr0f2 eV2 r0c0 r0c1 r0c2 r0c3 r0c4 r0c5 r0c6 r0c7 r0c8 r0c9 r0c10
    clear hb
    have lert := bel.size
    have ltr0rt := r0.lt
    have nn := alloc_on' v3 (.cells #[.int .u32 1, .int .u32 2, .int .i64 3, .int .i64 4] 27)
    have rt := row_new v3 [.int .u32 1, .int .u32 2, .int .i64 3, .int .i64 4] 27
    obtain ⟨V4, eV4⟩ : ∃ V, v3.alloc (.cells #[.int .u32 1, .int .u32 2, .int .i64 3, .int .i64 4] 27) = V := ⟨_, rfl⟩
    rw [eV4] at nn rt
    replace r0 := r0.on' nn
    replace bel := Below.then bel nn
    clear nn
    have rtc0 := rt.cell 0 _ rfl
    have rtc1 := rt.cell 1 _ rfl
    have rtc2 := rt.cell 2 _ rfl
    have rtc3 := rt.cell 3 _ rfl
    go_wp2_with fail
    refine (unhide P1 _ (hE.on bel)).mono ?_
    rintro e v5 ⟨rfl, hb⟩
    replace r0 := r0.on' hb
    replace rt := rt.on' hb
    replace bel := Below.then bel hb
    clear eV4 rtc0 rtc1 rtc2 rtc3
    clear hb
    have rtc0 := rt.cell 0 _ rfl
    have rtc1 := rt.cell 1 _ rfl
    have rtc2 := rt.cell 2 _ rfl
    have rtc3 := rt.cell 3 _ rfl
    go_wp2_with fail
    refine (unhide P2 _ (hE.on bel)).mono ?_
    rintro e v6 ⟨rfl, hb⟩
    replace r0 := r0.on' hb
    replace rt := rt.on' hb
    replace bel := Below.then bel hb
    clear rtc0 rtc1 rtc2 rtc3
    clear hb
    have rtc0 := rt.cell 0 _ rfl
    have rtc1 := rt.cell 1 _ rfl
    have rtc2 := rt.cell 2 _ rfl
    have rtc3 := rt.cell 3 _ rfl
    go_wp2_with fail
    refine (unhide Q1 _ (hE.on bel)).mono ?_
    rintro e v7 ⟨rfl, hb⟩
    replace r0 := r0.on' hb
    replace rt := rt.on' hb
    replace bel := Below.then bel hb
    clear rtc0 rtc1 rtc2 rtc3
    clear hb
    have rtc0 := rt.cell 0 _ rfl
    have rtc1 := rt.cell 1 _ rfl
    have rtc2 := rt.cell 2 _ rfl
    have rtc3 := rt.cell 3 _ rfl
    go_wp2_with fail
    refine (unhide Q2 _ (hE.on bel)).mono ?_
    rintro e v8 ⟨rfl, hb⟩
    replace r0 := r0.on' hb
    replace rt := rt.on' hb
    replace bel := Below.then bel hb
    clear rtc0 rtc1 rtc2 rtc3
    clear hb
    go_wp2_with fail
    go_ret
    exact ⟨rfl, bel⟩
  · skip
    have wt : (⟨1, 2, 3, 4⟩ : En).Wf := ⟨⟨by decide, by decide⟩, ⟨by decide, by decide⟩, by decide, by decide⟩
    have A1 := about_no_plain wm hk ⟨1, 2, 3, 4⟩ ⟨#[]⟩
    have A2 := about_no_plain wm hk ⟨1, 2, 3, 4⟩ a1
    have B1 := about_frame wm hk wt hl (src := 5) (dst := 6) ⟨by decide, by decide⟩ ⟨by decide, by decide⟩ ⟨#[]⟩
    have B2 := about_frame wm hk wt hl (src := 5) (dst := 6) ⟨by decide, by decide⟩ ⟨by decide, by decide⟩ a1
    rw [Ps.app_nil] at A1 B1
    rw [A1.1, A1.2] at P1
    rw [A2.1, A2.2] at P2
    rw [B1.1, B1.2] at Q1
    rw [B2.1, B2.2] at Q2
    clear A1 A2 B1 B2
    generalize abS (m.ttl - 1) 5 6 (m.flags % 6) (quoS (ich m).body 20 (m.ends.tup (pr m)) ⟨1, 2, 3, 4⟩) = X at *
    generalize frameS m ++ a1 = FM at *
    generalize frameS m = F at *
    rw [← hm] at FA
    clear hk hl sz wm hm
    have KE := hide (fun u h => examples_any u h)
    have r0 := row_new w a0.cells 25
    have bel := alloc_on' w (.cells a0.cells.toArray 25)
    have HT := hide hT
    clear hT
    have hT := unhide HT
    go_enter Tryz.func9, Tryz.ntmps9
    have r0c0 := r0.cell 0 _ rfl
    have r0c1 := r0.cell 1 _ rfl
    have r0c2 := r0.cell 2 _ rfl
    have r0c3 := r0.cell 3 _ rfl
    have r0c4 := r0.cell 4 _ rfl
    have r0c5 := r0.cell 5 _ rfl
    have r0c6 := r0.cell 6 _ rfl
    have r0c7 := r0.cell 7 _ rfl
    have r0c8 := r0.cell 8 _ rfl
    have r0c9 := r0.cell 9 _ rfl
    have r0c10 := r0.cell 10 _ rfl
    go_wp2_with fail
    refine (unhide KE _ (hE.on bel)).mono ?_
    rintro e v1 ⟨rfl, hb⟩
    replace r0 := r0.on' hb
    replace bel := Below.then bel hb
    clear r0c0 r0c1 r0c2 r0c3 r0c4 r0c5 r0c6 r0c7 r0c8 r0c9 r0c10
    clear hb
    have k0c6 := r0.cell 6 _ rfl
    have sr0c2 := r0.cell 6 _ rfl
    have sr0f2 := r0.free 6
    replace r0 := r0.set 6 (.int .u8 T)
    replace bel := bel.setCell (p := ⟨w.heap.size, 6, none⟩) (show w.heap.size ≤ w.heap.size by omega) (.int .u8 T)
    obtain ⟨V2, eV2⟩ : ∃ V, v1.setCell ⟨w.heap.size, 6, none⟩ (.int .u8 T) = V := ⟨_, rfl⟩
    rw [eV2] at r0 bel
    replace r0 : Row V2 w.heap.size ([.int .u8 a0.kind, .int .u32 a0.src, .int .u32 a0.dst, .int .u16 a0.sport, .int .u16 a0.dport, .int .u8 a0.flags, .int .u8 T, .string a0.body, .bool a0.zero, .int .u32 a0.frm, .int .u32 a0.dest]) := r0
    have r0c0 := r0.cell 0 _ rfl
    have r0c1 := r0.cell 1 _ rfl
    have r0c2 := r0.cell 2 _ rfl
    have r0c3 := r0.cell 3 _ rfl
    have r0c4 := r0.cell 4 _ rfl
    have r0c5 := r0.cell 5 _ rfl
    have r0c6 := r0.cell 6 _ rfl
    have r0c7 := r0.cell 7 _ rfl
    have r0c8 := r0.cell 8 _ rfl
    have r0c9 := r0.cell 9 _ rfl
    have r0c10 := r0.cell 10 _ rfl
    go_wp2_with fail
    refine (unhide FA _).mono ?_
    rintro e v3 ⟨rfl, hb⟩
    replace r0 := r0.on' hb
    replace bel := Below.then bel hb
    clear k0c6 sr0c2 sr0f2 eV2 r0c0 r0c1 r0c2 r0c3 r0c4 r0c5 r0c6 r0c7 r0c8 r0c9 r0c10
    clear hb
    have lert := bel.size
    have ltr0rt := r0.lt
    have nn := alloc_on' v3 (.cells #[.int .u32 1, .int .u32 2, .int .i64 3, .int .i64 4] 27)
    have rt := row_new v3 [.int .u32 1, .int .u32 2, .int .i64 3, .int .i64 4] 27
    obtain ⟨V4, eV4⟩ : ∃ V, v3.alloc (.cells #[.int .u32 1, .int .u32 2, .int .i64 3, .int .i64 4] 27) = V := ⟨_, rfl⟩
    rw [eV4] at nn rt
    replace r0 := r0.on' nn
    replace bel := Below.then bel nn
    clear nn
    have rtc0 := rt.cell 0 _ rfl
    have rtc1 := rt.cell 1 _ rfl
    have rtc2 := rt.cell 2 _ rfl
    have rtc3 := rt.cell 3 _ rfl
    go_wp2_with fail
    refine (unhide P1 _ (hE.on bel)).mono ?_
    rintro e v5 ⟨rfl, hb⟩
    replace r0 := r0.on' hb
    replace rt := rt.on' hb
    replace bel := Below.then bel hb
    clear eV4 rtc0 rtc1 rtc2 rtc3
    clear hb
    have rtc0 := rt.cell 0 _ rfl
    have rtc1 := rt.cell 1 _ rfl
    have rtc2 := rt.cell 2 _ rfl
    have rtc3 := rt.cell 3 _ rfl
    go_wp2_with fail
    refine (unhide P2 _ (hE.on bel)).mono ?_
    rintro e v6 ⟨rfl, hb⟩
    replace r0 := r0.on' hb
    replace rt := rt.on' hb
    replace bel := Below.then bel hb
    clear rtc0 rtc1 rtc2 rtc3
    clear hb
    have rtc0 := rt.cell 0 _ rfl
    have rtc1 := rt.cell 1 _ rfl
    have rtc2 := rt.cell 2 _ rfl
    have rtc3 := rt.cell 3 _ rfl
    go_wp2_with fail
    refine (unhide Q1 _ (hE.on bel)).mono ?_
    rintro e v7 ⟨rfl, hb⟩
    replace r0 := r0.on' hb
    replace rt := rt.on' hb
    replace bel := Below.then bel hb
    clear rtc0 rtc1 rtc2 rtc3
    clear hb
    have rtc0 := rt.cell 0 _ rfl
    have rtc1 := rt.cell 1 _ rfl
    have rtc2 := rt.cell 2 _ rfl
    have rtc3 := rt.cell 3 _ rfl
    go_wp2_with fail
    refine (unhide Q2 _ (hE.on bel)).mono ?_
    rintro e v8 ⟨rfl, hb⟩
    replace r0 := r0.on' hb
    replace rt := rt.on' hb
    replace bel := Below.then bel hb
    clear rtc0 rtc1 rtc2 rtc3
    clear hb
    go_wp2_with fail
    go_ret
    exact ⟨rfl, bel⟩

theorem reads (os : Os) {H : Type} (enc : TypeId × Value → H) : DataW.whole enc Tryz.prog ((World.laidAll Tryz.prog os Rows.patchBackRow.laid).forCall (fun _ _ => 0) ⟨#[], #[.agg #[.int .u8 0, .int .u32 0, .int .u32 0, .int .u16 0, .int .u16 0, .int .u8 0, .int .u8 0, .string ByteArray.empty, .bool false, .int .u32 0, .int .u32 0], .string ByteArray.empty], []⟩).memory Tryz.f9.params.toList Rows.patchPadsSpec.vars false (#[.agg #[.int .u8 0, .int .u32 0, .int .u32 0, .int .u16 0, .int .u16 0, .int .u8 0, .int .u8 0, .string ByteArray.empty, .bool false, .int .u32 0, .int .u32 0], .string ByteArray.empty] : Array Value).toList 8 = some ([.agg [.lit (.int .u8 0), .lit (.int .u32 0), .lit (.int .u32 0), .lit (.int .u16 0), .lit (.int .u16 0), .lit (.int .u8 0), .lit (.int .u8 0), .lit (.string []), .lit (.bool false), .lit (.int .u32 0), .lit (.int .u32 0)], .lit (.string [])], [], []) := by kernel_rfl
set_option maxRecDepth 100000 in
theorem lifted (os : Os) (started : os.Started) (H : Type) (enc : TypeId × Value → H) (F : Stop.Interp) :
    ReturnsInHanded {} Tryz.checked os 9 .any ((OpenSpec.ofChange Rows.patchPadsSpec).preRow enc Tryz.prog Tryz.f9 Rows.patchPadsRow.domain false Rows.patchPadsRow.laid) (((OpenSpec.ofChange Rows.patchPadsSpec).at F).post enc Tryz.prog Tryz.f9 false true false false) := by
  refine returnsInHanded_of_row (C := Tryz.checked) (s := (OpenSpec.ofChange Rows.patchPadsSpec)) own started (by kernel_rfl) Tryz.func9
    (witness_row_at (enc := enc) (C := Tryz.checked) false (World.laidAll Tryz.prog os Rows.patchBackRow.laid) #[.agg #[.int .u8 0, .int .u32 0, .int .u32 0, .int .u16 0, .int .u16 0, .int .u8 0, .int .u8 0, .string ByteArray.empty, .bool false, .int .u32 0, .int .u32 0], .string ByteArray.empty] (World.laidAll_os _ _ _) (by kernel_rfl) (by kernel_rfl) (by kernel_rfl)
      (OpenSpec.preRow_of_cond 8 (reads os enc) (by kernel_rfl) (fun k hk => by cases hk) (by kernel_rfl) (laid_met os _))) ?_
  intro W base args ds gs before hval0 hW _ hcond hsz hL _ _
  have hval : ∀ (j : Nat) t v, Tryz.f9.params[j]? = some t → args[j]? = some v → Value.okWide Tryz.prog W .any base t v := hval0
  have hW' := hW
  obtain ⟨p, q, hA0, hV, rfl, hfz, hnd⟩ := hW
  have hA : DataW.TrodAll enc Tryz.prog W 0 (fun _ => true) true Tryz.f9.params.toList args.toList ds p := hA0
  rw [Tryz.params9] at hA hval
  obtain ⟨v0, vs0, d0, ds0, p0, q0, hargs, rfl, rfl, h0, r0⟩ := trodAll_cons hA
  obtain ⟨v1, vs1, d1, ds1, p1, q1, rfl, rfl, rfl, h1, r1⟩ := trodAll_cons r0
  obtain ⟨rfl, rfl, rfl⟩ := trodAll_nil r1
  obtain rfl : args = #[v0, v1] := by cases args; simp_all
  obtain ⟨rfl, rfl⟩ := trodVars_none hV
  obtain ⟨a0, rfl, rfl, rfl, f0⟩ := open_head (hval 0 25 v0 rfl rfl) h0
  obtain ⟨a1, rfl, rfl, rfl, w1⟩ := open_string Tryz.underlying9 (hval 1 9 v1 rfl rfl) h1
  clear hA0 hval0
  simp only [List.append_nil] at hW'
  have w0 : a0.Wf := f0.wf (sized_head hsz (j := 0) rfl rfl)
  have z1 : a1.size ≤ 140737488355328 := by
    have hq : a1.data.toList.length ≤ reachBytes := sized_string hsz (j := 1) (t := 9) rfl rfl
    have e : a1.data.toList.length = a1.size := by rw [Array.length_toList]; rfl
    rw [e] at hq
    exact Nat.le_trans hq (by decide)
  refine (walk W (env_of hL) a0 w0 a1 z1).mono fun e W' ⟨he, bel⟩ => ?_
  subst he
  exact ⟨_, rfl, _, _, _, [], _, [], hW', (trodAll_cons_mk (shut_bool Tryz.underlying4 _) trodAll_mk0), (trodAll_cons_mk (shut_head a0 f0) (trodAll_cons_mk (shut_string Tryz.underlying9 w1) trodAll_mk0)), rfl, bel.frame _, fun h => by cases h⟩

theorem over : Rows.patchPadsRow.holds Tryz.pinned (OpenSpec.ofChange Rows.patchPadsSpec) :=
  OpenClaim.holds_of_cond 9 Tryz.f9 rfl rfl rfl rfl rfl rfl rfl ⟨rfl, rfl, rfl, rfl, rfl⟩ rfl rfl rfl rfl rfl (by kernel_rfl) Tryz.func9 (by kernel_rfl)
    (of_decide_eq_true (by kernel_rfl)) (by unfold Func.isWrapper; first | (rw [if_pos (by decide +kernel)]; kernel_rfl) | (rw [if_neg (by decide +kernel)]; exact ⟨rfl, rfl⟩))
    (fun os started H enc _ F => by rw [OpenClaim.pre_eq_preRow]; exact lifted os started H enc F)

/-- No parameter wants a stand-in; the program's own looks are off. -/
theorem plain (f : FuncId) (fn : Func) (hf : Tryz.pinned.checked.prog.funcNamed Rows.patchPadsRow.func = some f) (hfn : Tryz.pinned.checked.prog.funcs[f]? = some fn) :
    false = Tryz.pinned.checked.prog.looks [] ∧ ∀ (j : Nat) t, fn.params[j]? = some t → Tryz.pinned.checked.prog.wantsStandIn t = false := by
  obtain rfl : f = 9 := Option.some.inj ((show Tryz.prog.funcNamed Rows.patchPadsRow.func = some 9 by kernel_rfl).symm.trans hf) |>.symm
  obtain rfl : fn = Tryz.f9 := (Option.some.inj (Tryz.func9.symm.trans hfn)).symm
  refine ⟨by kernel_rfl, fun j t ht => ?_⟩
  rw [Tryz.params9] at ht
  have hm : t ∈ [25, 9] := by simpa using Array.mem_of_getElem? ht
  have hall : ([25, 9].all fun u => !Tryz.prog.wantsStandIn u) = true := by kernel_rfl
  exact (show Tryz.prog.wantsStandIn t = false by simpa using List.all_eq_true.1 hall t hm)

theorem proved : Rows.PatchPadsCardSaid :=
  Claim7.holds_tied_plain_at .later [] _ _ _ _ over (fun _ h => by cases h) (by kernel_rfl) (fun _ h => by cases h) patchPads_row_tie rfl ⟨rfl, rfl⟩ (by kernel_rfl) rfl plain (by kernel_rfl)
#print axioms proved
end Go.Proofs.YtpjaajeojiaeiaaGreatDoor.patchPads
