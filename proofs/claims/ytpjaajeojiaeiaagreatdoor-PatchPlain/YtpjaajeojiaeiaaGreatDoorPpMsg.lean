/- What message of package patch does. -/
import Derived.Test.YtpjaajeojiaeiaaGreatDoorPpOut
import Derived.Test.YtpjaajeojiaeiaaGreatDoorIcD
namespace Go.Proofs.YtpjaajeojiaeiaaGreatDoor
open Go.ChangeShapes Go.WideShapes Go.ChangeAt Go.RowKit

/-- The message, about another packet. -/
def msgH (s : ByteArray) (p : Pk) (t : En) : Ic.Hd := ⟨(Ic.parseH s).kind, (Ic.parseH s).code, (Ic.parseH s).rest, quoS (Ic.parseH s).body (p.inner - p.quote) p.tup t⟩
def msgT (s : ByteArray) (p : Pk) (t : En) : ByteArray := Ic.buildS (msgH s p t)
theorem quoS_le (q : ByteArray) (z : Int) (was : Tp) (t : En) : (quoS q z was t).size ≤ q.size + q.size := by
  have h1 := quoA_le q z was t
  have h2 := quoB_le q z was t
  unfold quoS
  rw [ByteArray.size_append]; omega
theorem parseH_body (s : ByteArray) : (Ic.parseH s).body.size ≤ s.size := by
  unfold Ic.parseH
  split
  · show (s.extract 8 s.size).size ≤ _
    rw [ByteArray.size_extract]; omega
  · exact Nat.zero_le _
theorem parseH_wf (s : ByteArray) : (-9223372036854775808 ≤ (Ic.parseH s).kind ∧ (Ic.parseH s).kind ≤ 9223372036854775807) ∧ (-9223372036854775808 ≤ (Ic.parseH s).code ∧ (Ic.parseH s).code ≤ 9223372036854775807) ∧ (0 ≤ (Ic.parseH s).rest ∧ (Ic.parseH s).rest ≤ 4294967295) := by
  have h0 := Ic.got_lo s 0 1
  have h1 := Ic.got_lo s 1 1
  have h2 := Ic.got_lo s 4 4
  have h3 := Ic.got_hi1 s 0
  have h4 := Ic.got_hi1 s 1
  have h5 := Ic.got_hi4 s 4
  unfold Ic.parseH
  split
  · refine ⟨?_, ?_, ?_⟩
    · show _ ≤ got s 0 1 ∧ got s 0 1 ≤ _; omega
    · show _ ≤ got s 1 1 ∧ got s 1 1 ≤ _; omega
    · show _ ≤ got s 4 4 ∧ got s 4 4 ≤ _; omega
  · exact ⟨by decide, by decide, by decide⟩
theorem msgH_wf (s : ByteArray) (p : Pk) (t : En) (hs : s.size ≤ 100000000) : (msgH s p t).Wf := by
  have zb := parseH_body s
  have zq := quoS_le (Ic.parseH s).body (p.inner - p.quote) p.tup t
  obtain ⟨w1, w2, w3⟩ := parseH_wf s
  unfold msgH
  generalize quoS (Ic.parseH s).body (p.inner - p.quote) p.tup t = Q at *
  generalize (Ic.parseH s).kind = k at *
  generalize (Ic.parseH s).code = c at *
  generalize (Ic.parseH s).rest = r at *
  exact ⟨w1, w2, w3, by show Q.size ≤ _; omega⟩
set_option maxRecDepth 100000 in
set_option maxHeartbeats 2000000 in
theorem pmessage_any (s : ByteArray) (p : Pk) (t : En) (w : World) (hs : s.size ≤ 100000000) (hz0 : 0 ≤ p.inner - p.quote) (hz1 : p.inner - p.quote ≤ (Ic.parseH s).body.size) (hi : 0 ≤ p.inner ∧ p.inner ≤ 100000000) (hq : 0 ≤ p.quote ∧ p.quote ≤ 100000000) (hA : Ps.U32 p.tup.src ∧ Ps.U32 p.tup.dst) (hT : Ps.U32 t.src ∧ Ps.U32 t.dst) (hP : (0 ≤ p.tup.sport ∧ p.tup.sport ≤ 65535) ∧ (0 ≤ p.tup.dport ∧ p.tup.dport ≤ 65535)) (hQ : (0 ≤ t.sport ∧ t.sport ≤ 65535) ∧ (0 ≤ t.dport ∧ t.dport ≤ 65535)) (hI : Ps.I64 p.tup.proto) :
    Calls Tryz.prog 30 #[.string s, p.val, t.val] w fun e w' => e = .returned (.string (msgT s p t)) ∧ Below w.heap.size w w' := by
  have zb := parseH_body s
  have zq := quoS_le (Ic.parseH s).body (p.inner - p.quote) p.tup t
  obtain ⟨w1, w2, w3⟩ := parseH_wf s
  have HP := hide (fun u => Ic.parse_any s u (by omega))
  have HB := hide (fun u => Ic.build_any (msgH s p t) u (msgH_wf s p t hs))
  have HQ := hide (fun u => quote_any (Ic.parseH s).body (p.inner - p.quote) p.tup t u (by omega) hz0 hz1 hA hT hP hQ hI)
  have HM : Hid (msgT s p t = Ic.buildS (msgH s p t)) := rfl
  obtain ⟨M, hM⟩ : ∃ M, msgT s p t = M := ⟨_, rfl⟩
  rw [← HM.out, hM] at HB
  have HV : Hid ((msgH s p t).val = .agg #[.int .i64 (Ic.parseH s).kind, .int .i64 (Ic.parseH s).code, .int .u32 (Ic.parseH s).rest, .string (quoS (Ic.parseH s).body (p.inner - p.quote) p.tup t)]) := by unfold Hid; simp only [msgH]
  rw [HV.out] at HB
  have HM2 := hide hM
  generalize quoS (Ic.parseH s).body (p.inner - p.quote) p.tup t = QS at *
  obtain ⟨Z, hZ⟩ : ∃ Z, p.inner - p.quote = Z := ⟨_, rfl⟩
  rw [hZ] at HQ
  obtain ⟨i0, i1⟩ := hi
  obtain ⟨j0, j1⟩ := hq
  clear HM HV hM hz0 hz1 zb zq w1 w2 w3 hA hT hP hQ hI
  generalize Ic.buildE (msgH s p t) = ME at *
  obtain ⟨h, hh⟩ : ∃ h, Ic.parseH s = h := ⟨_, rfl⟩
  rw [hh] at HP HB HQ
  have HH := hide hh
  clear hh
  have r1 := (row_new w p.cells 45).on' (alloc_on' _ (.cells t.cells.toArray 27))
  have r2 := row_new (w.alloc (.cells p.cells.toArray 45)) t.cells 27
  have bel := Below.then (alloc_on' w (.cells p.cells.toArray 45)) (alloc_on' _ (.cells t.cells.toArray 27))
  rw [show (w.alloc (.cells p.cells.toArray 45)).heap.size = w.heap.size + 1 by simp] at r2
  have HR := hide (And.intro r1 (And.intro r2 bel))
  clear r1 r2 bel
  go_enter Tryz.func30, Tryz.ntmps30
  go_wp2_with fail
  refine (unhide HP _).mono ?_
  rintro e w3 ⟨rfl, hb⟩
  obtain ⟨r1, r2, bel⟩ := unhide HR
  have n3 := alloc_on' w3 (.cells #[.int .i64 h.kind, .int .i64 h.code, .int .u32 h.rest, .string h.body] 103)
  have r3 := row_new w3 [.int .i64 h.kind, .int .i64 h.code, .int .u32 h.rest, .string h.body] 103
  replace r1 := (r1.on' hb).on' n3
  replace r2 := (r2.on' hb).on' n3
  replace bel := Below.then bel hb
  have hgw : w.heap.size ≤ w3.heap.size := bel.size
  replace bel := Below.then bel n3
  obtain ⟨W3, e3⟩ : ∃ V, w3.alloc (.cells #[.int .i64 h.kind, .int .i64 h.code, .int .u32 h.rest, .string h.body] 103) = V := ⟨_, rfl⟩
  rw [e3] at n3 r3 r1 r2 bel
  obtain ⟨g, hg⟩ : ∃ g, w3.heap.size = g := ⟨_, rfl⟩
  rw [hg] at r3 hgw
  have m3 := r3.cell 3 _ rfl
  have p9 := r1.cell 9 _ rfl
  have p13 := r1.cell 13 _ rfl
  have p12 := r1.cell 12 _ rfl
  have p3 := r1.cell 3 _ rfl
  have p4 := r1.cell 4 _ rfl
  have p5 := r1.cell 5 _ rfl
  have p6 := r1.cell 6 _ rfl
  have p7 := r1.cell 7 _ rfl
  have t0 := r2.cell 0 _ rfl
  have t1 := r2.cell 1 _ rfl
  have t2 := r2.cell 2 _ rfl
  have t3 := r2.cell 3 _ rfl
  have HR := hide (And.intro r3 bel)
  clear r1 r2 bel r3 n3 hb
  go_wp2_with fail
  refine (unhide HQ _).mono ?_
  rintro e w4 ⟨rfl, hb⟩
  obtain ⟨r3, bel⟩ := unhide HR
  replace r3 := r3.on' hb
  replace bel := Below.then bel hb
  have m3 := r3.cell 3 _ rfl
  have f3 := r3.free 3
  have r4 := r3.set 3 (.string QS)
  have b4 := bel.setCell (p := ⟨g, 3, none⟩) hgw (.string QS)
  obtain ⟨W4, e4⟩ : ∃ V, w4.setCell ⟨g, 3, none⟩ (.string QS) = V := ⟨_, rfl⟩
  rw [e4] at r4 b4
  have q0 := r4.cell 0 _ rfl
  have q1 := r4.cell 1 _ rfl
  have q2 := r4.cell 2 _ rfl
  have q3 := r4.cell 3 _ rfl
  have HB4 := hide b4
  clear r3 bel r4 b4 hb p3 p4 p5 p6 p7 p9 p12 p13 t0 t1 t2 t3 HR
  go_wp2_with fail
  refine (unhide HB _).mono ?_
  rintro e w5 ⟨rfl, hb⟩
  have HB5 := hide (Below.then (unhide HB4) hb)
  clear hb
  go_wp2_with fail
  go_ret
  exact ⟨ret_str' (unhide HM2).symm, unhide HB5⟩
end Go.Proofs.YtpjaajeojiaeiaaGreatDoor
