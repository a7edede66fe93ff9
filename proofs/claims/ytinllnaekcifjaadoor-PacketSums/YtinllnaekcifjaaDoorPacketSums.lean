/- PacketSums: a packet with one bit of its body turned is refused for its sum, of TCP, and of UDP, where it has a check; under the given ties of the package's listed variables. -/
import Derived.Test.YtinllnaekcifjaaDoorPkLaidD
import Derived.Test.YtinllnaekcifjaaDoorPkOpM
import Derived.Test.YtinllnaekcifjaaDoorPkEx
import Derived.Test.YtinllnaekcifjaaDoorPkKey
import Derived.Test.YtinllnaekcifjaaDoorPkBit
namespace Go.Proofs.YtinllnaekcifjaaDoor.packetSums
open Go.ChangeShapes Go.WideShapes Go.ChangeAt Go.RowKit
open Go.ChangeMaps (open_string shut_string)
open MO
set_option linter.unusedVariables false
theorem hdrew {V u : World} {B : Nat} (hb : Below B V.drew u) : Below B V u := ⟨hb.os, hb.tape, hb.output, hb.size, hb.block⟩
theorem sized_tight {H : Type} {ts : List TypeId} {ds : List (DataW H)} (h : (DataW.weightsEach Tryd.prog ts ds).all (· ≤ reachBytes) = true) {j : Nat} {x : Mk} (ht : ts[j]? = some 33) (hd : ds[j]? = some (hdata H x)) : x.body.size ≤ 140737488351232 := by
  have hm := DataW.weights_mem_each (P := Tryd.prog) ht hd x.body.data.toList.length (by unfold hdata DataW.weights; rw [Tryd.underlying33]; simp [DataW.weightsEach, DataW.weights])
  have := List.all_eq_true.1 h _ hm
  have e : x.body.data.toList.length = x.body.size := by rw [Array.length_toList]; rfl
  rw [e] at this
  have h2 : x.body.size ≤ reachBytes := by simpa using this
  exact Nat.le_trans h2 (by decide)
set_option maxHeartbeats 4000000 in
set_option maxRecDepth 100000 in
theorem walk (w : World) (hE : Ic.Env w) (a0 : Mk) (w0 : a0.Wf) (s0 : a0.body.size ≤ 140737488351232) (a1 : Int) (w1 : (Lit.int .u16 a1).wf = true) :
    Calls Tryd.prog 7 #[a0.val, .int .u16 a1] w fun e w' => e = .returned (.bool true) ∧ Below w.heap.size w w' := by
  have hbsz : (⟨#[98]⟩ ++ a0.body : ByteArray).size = 1 + a0.body.size := by rw [ByteArray.size_append]; rfl
  have hm : ((⟨a0.kind % 2, a0.src, a0.dst, a0.sport, a0.dport, a0.flags, a0.ttl, ⟨#[98]⟩ ++ a0.body, false, a0.frm, a0.dest⟩ : Mk)).Wf := ⟨by show 0 ≤ a0.kind % 2 ∧ a0.kind % 2 ≤ 255; omega, w0.src, w0.dst, w0.sport, w0.dport, w0.flags, w0.ttl, by show (⟨#[98]⟩ ++ a0.body : ByteArray).size ≤ _; omega, w0.frm, w0.dest⟩
  have had := add_run' ⟨#[98]⟩ a0.body (by decide) (by omega)
  have hbit : 0 ≤ a1 ∧ a1 ≤ 65535 := bounds_u16 w1
  obtain ⟨BB, hBB⟩ : ∃ BB, (⟨#[98]⟩ ++ a0.body : ByteArray) = BB := ⟨_, rfl⟩
  rw [hBB] at hm had hbsz
  have hk4 : ((⟨a0.kind % 2, a0.src, a0.dst, a0.sport, a0.dport, a0.flags, a0.ttl, BB, false, a0.frm, a0.dest⟩ : Mk)).kind % 4 < 2 := by show a0.kind % 2 % 4 < 2; omega
  have KE := hide (fun u h => examples_any u h)
  have FA := hide (fun u => frame_any ((⟨a0.kind % 2, a0.src, a0.dst, a0.sport, a0.dport, a0.flags, a0.ttl, BB, false, a0.frm, a0.dest⟩ : Mk)) u hm)
  obtain ⟨sz1, sz2⟩ := frame_size hm
  have hmbs : (mb ((⟨a0.kind % 2, a0.src, a0.dst, a0.sport, a0.dport, a0.flags, a0.ttl, BB, false, a0.frm, a0.dest⟩ : Mk))).size = min BB.size 40 := by unfold mb; rw [ByteArray.size_extract]; show min (min BB.size 40) BB.size - 0 = _; omega
  have hF2 : 28 + (mb ((⟨a0.kind % 2, a0.src, a0.dst, a0.sport, a0.dport, a0.flags, a0.ttl, BB, false, a0.frm, a0.dest⟩ : Mk))).size ≤ (frameS ((⟨a0.kind % 2, a0.src, a0.dst, a0.sport, a0.dport, a0.flags, a0.ttl, BB, false, a0.frm, a0.dest⟩ : Mk))).size := by
    have e : frameS ((⟨a0.kind % 2, a0.src, a0.dst, a0.sport, a0.dport, a0.flags, a0.ttl, BB, false, a0.frm, a0.dest⟩ : Mk)) = inS ((⟨a0.kind % 2, a0.src, a0.dst, a0.sport, a0.dport, a0.flags, a0.ttl, BB, false, a0.frm, a0.dest⟩ : Mk)) := if_pos hk4
    have h := (inS_size hm).2.2
    rw [e]
    rcases pr_or ((⟨a0.kind % 2, a0.src, a0.dst, a0.sport, a0.dport, a0.flags, a0.ttl, BB, false, a0.frm, a0.dest⟩ : Mk)) with hp | hp <;> rw [hp] at h
    · have := seg6_size hm; omega
    · have := seg17_size hm; omega
  have HT := hide (fun K M8 h1 h2 h3 X h4 h5 h6 => sums_bit hm rfl hk4 K M8 h1 h2 h3 X h4 h5 h6)
  have CF := hide (fun u h => classify_any (frameS ((⟨a0.kind % 2, a0.src, a0.dst, a0.sport, a0.dport, a0.flags, a0.ttl, BB, false, a0.frm, a0.dest⟩ : Mk))) u (by omega) h)
  have hcf : clsE (frameS ((⟨a0.kind % 2, a0.src, a0.dst, a0.sport, a0.dport, a0.flags, a0.ttl, BB, false, a0.frm, a0.dest⟩ : Mk))) = 0 := by
    have h := (tells_plain hm hk4 ⟨#[]⟩).1
    rwa [Ps.app_nil] at h
  rw [hcf] at CF
  rw [hmbs] at hF2 HT
  generalize clsP (frameS ((⟨a0.kind % 2, a0.src, a0.dst, a0.sport, a0.dport, a0.flags, a0.ttl, BB, false, a0.frm, a0.dest⟩ : Mk))) = PF at *
  generalize hFe : frameS ((⟨a0.kind % 2, a0.src, a0.dst, a0.sport, a0.dport, a0.flags, a0.ttl, BB, false, a0.frm, a0.dest⟩ : Mk)) = F at *
  obtain ⟨NN, hNN⟩ : ∃ NN : Int, min (BB.size : Int) 40 = NN := ⟨_, rfl⟩
  have hN0 : 1 ≤ NN := by omega
  have hN1 : NN ≤ 40 := by omega
  have hN2 : (min BB.size 40 : Nat) = NN.toNat := by omega
  rw [hN2] at hF2 HT
  have hnz : ¬ (8 * NN = 0) := by omega
  obtain ⟨R, hR, hR0, hR1⟩ : ∃ R : Int, a1.tmod (8 * NN) = R ∧ 0 ≤ R ∧ R < 8 * NN := by
    refine ⟨_, rfl, ?_, ?_⟩
    · rw [Int.tmod_eq_emod_of_nonneg hbit.1]; exact Int.emod_nonneg _ (by omega)
    · rw [Int.tmod_eq_emod_of_nonneg hbit.1]; exact Int.emod_lt_of_pos _ (by omega)
  have ki : IntKind.i64.wrap a1 = a1 := Oct.wraps_i64 _ hbit.1 (by omega)
  have k2 : a0.kind.tmod 2 = a0.kind % 2 := Int.tmod_eq_emod_of_nonneg w0.kind.1
  have k2w : IntKind.u8.wrap (a0.kind % 2) = a0.kind % 2 := by rw [IntKind.wrap_u8]; omega
  obtain ⟨kd0, kd1⟩ := w0.kind
  have hd28 : decide ((F.size : Int) < 28 + NN) = false := by simp; omega
  have hq8 : R.tdiv 8 = R / 8 := Int.tdiv_eq_ediv_of_nonneg hR0
  obtain ⟨AT, hAT⟩ : ∃ AT : Int, (F.size : Int) - NN + R / 8 = AT := ⟨_, rfl⟩
  have HAT := hide hAT
  have HE := hide hE
  have HF2 := hide hF2
  have HNN := hide (And.intro hN2 hbsz)
  clear hE hm hFe hcf hmbs hk4 w0 w1 hF2 hN2 hbsz hBB
  have r0 := row_new w a0.cells 33
  have b0 := alloc_on w (.cells a0.cells.toArray 33)
  have HR := hide (And.intro r0 b0)
  clear r0 b0
  go_enter Tryd.func7, Tryd.ntmps7
  go_wp2_with fail
  refine (unhide KE _ ((unhide HE).on (unhide HR).2)).mono ?_
  rintro e w1 ⟨rfl, hb⟩
  obtain ⟨r0, b0⟩ := unhide HR
  have r1 := r0.on' hb
  have b1 := Below.then b0 hb
  have c0 := r1.cell 0 _ rfl
  have f0 := r1.free 0
  have r2 := r1.set 0 (.int .u8 (a0.kind % 2))
  have b2 := b1.setCell (p := ⟨w.heap.size, 0, none⟩) (Nat.le_refl _) (.int .u8 (a0.kind % 2))
  obtain ⟨W2, e2⟩ : ∃ V, w1.setCell ⟨w.heap.size, 0, none⟩ (.int .u8 (a0.kind % 2)) = V := ⟨_, rfl⟩
  rw [e2] at r2 b2
  have c8 := r2.cell 8 _ rfl
  have f8 := r2.free 8
  have r3 := r2.set 8 (.bool false)
  have b3 := b2.setCell (p := ⟨w.heap.size, 8, none⟩) (Nat.le_refl _) (.bool false)
  obtain ⟨W3, e3⟩ : ∃ V, W2.setCell ⟨w.heap.size, 8, none⟩ (.bool false) = V := ⟨_, rfl⟩
  rw [e3] at r3 b3
  have c7 := r3.cell 7 _ rfl
  have f7 := r3.free 7
  have r4 := r3.set 7 (.string BB)
  have b4 := b3.setCell (p := ⟨w.heap.size, 7, none⟩) (Nat.le_refl _) (.string BB)
  obtain ⟨W4, e4⟩ : ∃ V, W3.setCell ⟨w.heap.size, 7, none⟩ (.string BB) = V := ⟨_, rfl⟩
  rw [e4] at r4 b4
  replace r4 : Row W4 w.heap.size ((⟨a0.kind % 2, a0.src, a0.dst, a0.sport, a0.dport, a0.flags, a0.ttl, BB, false, a0.frm, a0.dest⟩ : Mk)).cells := r4
  have d0 := r4.cell 0 _ rfl
  have d1 := r4.cell 1 _ rfl
  have d2 := r4.cell 2 _ rfl
  have d3 := r4.cell 3 _ rfl
  have d4 := r4.cell 4 _ rfl
  have d5 := r4.cell 5 _ rfl
  have d6 := r4.cell 6 _ rfl
  have d7 := r4.cell 7 _ rfl
  have d8 := r4.cell 8 _ rfl
  have d9 := r4.cell 9 _ rfl
  have d10 := r4.cell 10 _ rfl
  have HR := hide (And.intro r4 b4)
  clear r0 b0 r1 b1 r2 b2 r3 b3 r4 b4 hb
  go_wp2_with fail
  refine (unhide FA _).mono ?_
  rintro e w5 ⟨rfl, hb⟩
  clear c0 f0 c8 f8 c7 f7 e2 e3 e4 d0 d1 d2 d3 d4 d5 d6 d7 d8 d9 d10
  obtain ⟨r4, b4⟩ := unhide HR
  have r5 := r4.on' hb
  have b5 := Below.then b4 hb
  have y7 := r5.cell 7 _ rfl
  obtain ⟨c, V, hcv, hVb, hVt⟩ := conv_bytes F w5
  have hgw : w.heap.size ≤ w5.heap.size := b5.size
  have HBV := hide (Below.then b5 hVb)
  have hgV : w5.heap.size < V.heap.size := by have := (hVt 0 (by rw [Oct.len_eq]; omega)).1; exact block_lt_of_cell this
  have HVt := hide hVt
  clear r4 b4 r5 b5 hb HR hVb hVt
  generalize hg : w5.heap.size = g at *
  go_wp2_with fail
  clear hcv y7
  have hVt := unhide HVt
  have hF2 := unhide HF2
  obtain ⟨Kn, hKn⟩ : ∃ Kn : Nat, AT.toNat = Kn := ⟨_, rfl⟩
  have hK0 : 0 ≤ AT := by have := unhide HAT; omega
  have hK1 : AT < F.size := by have := unhide HAT; omega
  have hKlo : F.size - NN.toNat ≤ Kn := by have := unhide HAT; omega
  have hKlt : Kn < F.size := by omega
  have hr8 : R.tmod 8 = R % 8 := Int.tmod_eq_emod_of_nonneg hR0
  obtain ⟨M8, hM8⟩ : ∃ M8 : Nat, (R % 8).toNat = M8 := ⟨_, rfl⟩
  have hM8l : M8 < 8 := by omega
  obtain ⟨PW, hPW⟩ : ∃ PW : Int, (2 : Int) ^ M8 = PW := ⟨_, rfl⟩
  have hPb : 1 ≤ PW ∧ PW ≤ 128 := by
    have hm8 : M8 = 0 ∨ M8 = 1 ∨ M8 = 2 ∨ M8 = 3 ∨ M8 = 4 ∨ M8 = 5 ∨ M8 = 6 ∨ M8 = 7 := by omega
    rcases hm8 with h | h | h | h | h | h | h | h <;> rw [h] at hPW <;> simp at hPW <;> omega
  have hsh : IntKind.u8.wrap (2 ^ (R % 8).toNat) = PW := by
    rw [hM8, hPW]
    simp [IntKind.wrap, IntKind.bits, IntKind.signed]; omega
  have hon : ∀ {u : World}, Below V.heap.size V.drew u → Bts u g F.data.toList := fun {u} hb => hVt.on (hdrew hb)
  have hlt : Kn < F.data.toList.length := by rw [Oct.len_eq]; omega
  have hbts : ∀ {u : World}, Below V.heap.size V.drew u → u.cell? ⟨g, Kn, none⟩ = some (.int .u8 ((F.data.toList.getD Kn 0).toNat : Int)) := fun {u} hb => (hon hb Kn hlt).1
  have hbtf : ∀ {u : World}, Below V.heap.size V.drew u → u.frozen? ⟨g, Kn, none⟩ = false := fun {u} hb => (hon hb Kn hlt).2
  obtain ⟨X, hX⟩ : ∃ X : Int, bits .xor .u8 ((F.data.toList.getD Kn 0).toNat : Int) PW = X := ⟨_, rfl⟩
  have hXb := bounds_u8 (wf_bits .xor .u8 ((F.data.toList.getD Kn 0).toNat : Int) PW)
  rw [hX] at hXb
  obtain ⟨hX0, hX1⟩ := hXb
  have hbad : clsE (Ps.withB F Kn (UInt8.ofNat X.toNat)) = 7 := unhide HT Kn M8 hKlo hKlt hM8l X (by rw [hPW]; exact hX) hX0 hX1
  generalize hbK : ((F.data.toList.getD Kn 0).toNat : Int) = bK at *
  refine wp_region_grow_store (by kernel_rfl) [.slice (some ⟨g, 0, none⟩) F.size c, .int .i64 AT, .slice (some ⟨g, 0, none⟩) F.size c, .int .i64 AT, .pointer (some ⟨g, Kn, none⟩), .int .u8 bK, .int .i64 R, .int .i64 (R % 8), .int .u8 PW, .int .u8 X, .pointer (some ⟨g, Kn, none⟩), undef] 11 (fun v => v.setCell ⟨g, Kn, none⟩ (.int .u8 X)) (by kernel_rfl) (by decide) rfl ?op ?store ?fin
  case op =>
    intro i o bx u ho hne hbel hS
    match i, ho with
    | 0, ho =>
      obtain rfl := Option.some.inj ho
      have d9 : bx.tmps.getD 9 undef = .slice (some ⟨g, 0, none⟩) F.size c := hS.base 9 (by kernel_rfl)
      refine .inl ⟨rfl, ends_value (c := .slice (some ⟨g, 0, none⟩) F.size c) ?_⟩
      simp [execOp, Act.eval, d9]
    | 1, ho =>
      obtain rfl := Option.some.inj ho
      have d10 : bx.tmps.getD 10 undef = .int .i64 AT := hS.base 10 (by kernel_rfl)
      refine .inl ⟨rfl, ends_value (c := .int .i64 AT) ?_⟩
      simp [execOp, Act.eval, d10]
    | 2, ho =>
      obtain rfl := Option.some.inj ho
      have d9 : bx.tmps.getD 9 undef = .slice (some ⟨g, 0, none⟩) F.size c := hS.base 9 (by kernel_rfl)
      refine .inl ⟨rfl, ends_value (c := .slice (some ⟨g, 0, none⟩) F.size c) ?_⟩
      simp [execOp, Act.eval, d9]
    | 3, ho =>
      obtain rfl := Option.some.inj ho
      have d10 : bx.tmps.getD 10 undef = .int .i64 AT := hS.base 10 (by kernel_rfl)
      refine .inl ⟨rfl, ends_value (c := .int .i64 AT) ?_⟩
      simp [execOp, Act.eval, d10]
    | 4, ho =>
      obtain rfl := Option.some.inj ho
      have d54 : bx.tmps.getD 54 undef = .slice (some ⟨g, 0, none⟩) F.size c := hS.dep 2 54 (by kernel_rfl) (by kernel_rfl)
      have d55 : bx.tmps.getD 55 undef = .int .i64 AT := hS.dep 3 55 (by kernel_rfl) (by kernel_rfl)
      refine .inl ⟨rfl, ends_value (c := .pointer (some ⟨g, Kn, none⟩)) ?_⟩
      simp [Act.eval, d54, d55, go_sem, hK0, hK1, hKn]
    | 5, ho =>
      obtain rfl := Option.some.inj ho
      have d56 : bx.tmps.getD 56 undef = .pointer (some ⟨g, Kn, none⟩) := hS.dep 4 56 (by kernel_rfl) (by kernel_rfl)
      have hl := (hbts (hbel (by kernel_rfl)))
      refine .inl ⟨rfl, ends_value (c := .int .u8 bK) ?_⟩
      simp [Act.eval, d56, go_sem, hl]
    | 6, ho =>
      obtain rfl := Option.some.inj ho
      have d8 : bx.tmps.getD 8 undef = .int .i64 R := hS.base 8 (by kernel_rfl)
      refine .inl ⟨rfl, ends_value (c := .int .i64 R) ?_⟩
      simp [execOp, Act.eval, d8]
    | 7, ho =>
      obtain rfl := Option.some.inj ho
      have d58 : bx.tmps.getD 58 undef = .int .i64 R := hS.dep 6 58 (by kernel_rfl) (by kernel_rfl)
      refine .inl ⟨rfl, ends_value (c := .int .i64 (R % 8)) ?_⟩
      simp [Act.eval, d58, go_sem, hr8]
    | 8, ho =>
      obtain rfl := Option.some.inj ho
      have d59 : bx.tmps.getD 59 undef = .int .i64 (R % 8) := hS.dep 7 59 (by kernel_rfl) (by kernel_rfl)
      refine .inl ⟨rfl, ends_value (c := .int .u8 PW) ?_⟩
      simp [Act.eval, d59, go_sem, hsh]
    | 9, ho =>
      obtain rfl := Option.some.inj ho
      have d57 : bx.tmps.getD 57 undef = .int .u8 bK := hS.dep 5 57 (by kernel_rfl) (by kernel_rfl)
      have d60 : bx.tmps.getD 60 undef = .int .u8 PW := hS.dep 8 60 (by kernel_rfl) (by kernel_rfl)
      refine .inl ⟨rfl, ends_value (c := .int .u8 X) ?_⟩
      simp [Act.eval, d57, d60, go_sem, hX]
    | 10, ho =>
      obtain rfl := Option.some.inj ho
      have d52 : bx.tmps.getD 52 undef = .slice (some ⟨g, 0, none⟩) F.size c := hS.dep 0 52 (by kernel_rfl) (by kernel_rfl)
      have d53 : bx.tmps.getD 53 undef = .int .i64 AT := hS.dep 1 53 (by kernel_rfl) (by kernel_rfl)
      refine .inl ⟨rfl, ends_value (c := .pointer (some ⟨g, Kn, none⟩)) ?_⟩
      simp [Act.eval, d52, d53, go_sem, hK0, hK1, hKn]
    | 11, _ => exact absurd rfl hne
    | n + 12, ho => exact absurd ho (by simp)
  case store =>
    intro o bx u ho hbel hS
    obtain rfl := Option.some.inj ho
    have d62 : bx.tmps.getD 62 undef = .pointer (some ⟨g, Kn, none⟩) := hS.dep 10 62 (by kernel_rfl) (by kernel_rfl)
    have d61 : bx.tmps.getD 61 undef = .int .u8 X := hS.dep 9 61 (by kernel_rfl) (by kernel_rfl)
    have hs1 := hbts hbel
    have hs2 := hbtf hbel
    refine ⟨rfl, ?_⟩
    simp [Act.eval, d62, d61, go_sem, hs1, hs2]
  case fin =>
    intro u hbel
    simp [putAll, dstAt, Act.put]
    have hB2 : Bts (u.setCell ⟨g, Kn, none⟩ (.int .u8 X)) g (F.data.toList.set Kn (UInt8.ofNat X.toNat)) := (hon hbel).set Kn (by rw [Oct.len_eq]; omega) X hX0 (by omega)
    have hbz : Below w.heap.size w (u.setCell ⟨g, Kn, none⟩ (.int .u8 X)) := ((unhide HBV).drew.trans (hbel.mono (unhide HBV).size)).setCell (p := ⟨g, Kn, none⟩) (by show _ ≤ g; exact hgw) _
    generalize u.setCell ⟨g, Kn, none⟩ (.int .u8 X) = Z at *
    have hlen : (F.data.toList.set Kn (UInt8.ofNat X.toNat)).length = F.size := by rw [List.length_set, Oct.len_eq]
    have htx := hB2.text c
    rw [hlen] at htx
    have hxe : (⟨(F.data.toList.set Kn (UInt8.ofNat X.toNat)).toArray⟩ : ByteArray) = Ps.withB F Kn (UInt8.ofNat X.toNat) := rfl
    rw [hxe] at htx
    have CX := hide (fun u h => classify_any (Ps.withB F Kn (UInt8.ofNat X.toNat)) u (by rw [Ps.withB_size]; omega) h)
    rw [hbad] at CX
    have HBZ := hide hbz
    clear hB2 hxe hbad hbz hbel hon hbts hbtf hlen
    generalize clsP (Ps.withB F Kn (UInt8.ofNat X.toNat)) = PX at *
    generalize Ps.withB F Kn (UInt8.ofNat X.toNat) = x at *
    go_wp2_with fail
    refine (unhide CX _ ((unhide HE).on (unhide HBZ))).mono ?_
    rintro e v7 ⟨rfl, hq⟩
    have n7 := alloc_on v7 (.cells PX.cells.toArray 36)
    have HB7 := hide (Below.then (Below.then (unhide HBZ) hq) n7)
    clear hq htx n7
    go_wp2_with fail
    refine (unhide CF _ ((unhide HE).on (unhide HB7))).mono ?_
    rintro e v8 ⟨rfl, hq⟩
    have n8 := alloc_on v8 (.cells PF.cells.toArray 36)
    have HB8 := hide (Below.then (Below.then (unhide HB7) hq) n8)
    clear hq n8
    go_wp2_with fail
    go_ret
    exact ⟨rfl, unhide HB8⟩

theorem reads (os : Os) {H : Type} (enc : TypeId × Value → H) : DataW.whole enc Tryd.prog ((World.laidAll Tryd.prog os Rows.packetKeysRow.laid).forCall (fun _ _ => 0) ⟨#[], #[.agg #[.int .u8 0, .int .u32 0, .int .u32 0, .int .u16 0, .int .u16 0, .int .u8 0, .int .u8 0, .string ByteArray.empty, .bool false, .int .u32 0, .int .u32 0], .int .u16 0], []⟩).memory Tryd.f7.params.toList Rows.packetSumsSpec.vars false (#[.agg #[.int .u8 0, .int .u32 0, .int .u32 0, .int .u16 0, .int .u16 0, .int .u8 0, .int .u8 0, .string ByteArray.empty, .bool false, .int .u32 0, .int .u32 0], .int .u16 0] : Array Value).toList 8 = some ([.agg [.lit (.int .u8 0), .lit (.int .u32 0), .lit (.int .u32 0), .lit (.int .u16 0), .lit (.int .u16 0), .lit (.int .u8 0), .lit (.int .u8 0), .lit (.string []), .lit (.bool false), .lit (.int .u32 0), .lit (.int .u32 0)], .lit (.int .u16 0)], [], []) := by kernel_rfl
set_option maxRecDepth 100000 in
theorem lifted (os : Os) (started : os.Started) (H : Type) (enc : TypeId × Value → H) (F : Stop.Interp) :
    ReturnsInHanded {} Tryd.checked os 7 .any ((OpenSpec.ofChange Rows.packetSumsSpec).preRow enc Tryd.prog Tryd.f7 Rows.packetSumsRow.domain false Rows.packetSumsRow.laid) (((OpenSpec.ofChange Rows.packetSumsSpec).at F).post enc Tryd.prog Tryd.f7 false true false false) := by
  refine returnsInHanded_of_row (C := Tryd.checked) (s := (OpenSpec.ofChange Rows.packetSumsSpec)) own started (by kernel_rfl) Tryd.func7
    (witness_row_at (enc := enc) (C := Tryd.checked) false (World.laidAll Tryd.prog os Rows.packetKeysRow.laid) #[.agg #[.int .u8 0, .int .u32 0, .int .u32 0, .int .u16 0, .int .u16 0, .int .u8 0, .int .u8 0, .string ByteArray.empty, .bool false, .int .u32 0, .int .u32 0], .int .u16 0] (World.laidAll_os _ _ _) (by kernel_rfl) (by kernel_rfl) (by kernel_rfl)
      (OpenSpec.preRow_of_cond 8 (reads os enc) (by kernel_rfl) (fun k hk => by cases hk) (by kernel_rfl) (laid_met os _))) ?_
  intro W base args ds gs before hval0 hW _ hcond hsz hL _ _
  have hval : ∀ (j : Nat) t v, Tryd.f7.params[j]? = some t → args[j]? = some v → Value.okWide Tryd.prog W .any base t v := hval0
  have hW' := hW
  obtain ⟨p, q, hA0, hV, rfl, hfz, hnd⟩ := hW
  have hA : DataW.TrodAll enc Tryd.prog W 0 (fun _ => true) true Tryd.f7.params.toList args.toList ds p := hA0
  rw [Tryd.params7] at hA hval
  obtain ⟨v0, vs0, d0, ds0, p0, q0, hargs, rfl, rfl, h0, r0⟩ := trodAll_cons hA
  obtain ⟨v1, vs1, d1, ds1, p1, q1, rfl, rfl, rfl, h1, r1⟩ := trodAll_cons r0
  obtain ⟨rfl, rfl, rfl⟩ := trodAll_nil r1
  obtain rfl : args = #[v0, v1] := by cases args; simp_all
  obtain ⟨rfl, rfl⟩ := trodVars_none hV
  obtain ⟨a0, rfl, rfl, rfl, f0⟩ := open_head (hval 0 33 v0 rfl rfl) h0
  obtain ⟨a1, rfl, rfl, rfl, w1⟩ := open_int Tryd.underlying31 (hval 1 31 v1 rfl rfl) h1
  clear hA0 hval0
  simp only [List.append_nil] at hW'
  have s0 : a0.body.size ≤ 140737488351232 := sized_tight hsz (j := 0) rfl rfl
  have w0 : a0.Wf := f0.wf (sized_head hsz (j := 0) rfl rfl)
  refine (walk W (env_of hL) a0 w0 s0 a1 w1).mono fun e W' ⟨he, bel⟩ => ?_
  subst he
  exact ⟨_, rfl, _, _, _, [], _, [], hW', (trodAll_cons_mk (shut_bool Tryd.underlying4 _) trodAll_mk0), (trodAll_cons_mk (shut_head a0 f0) (trodAll_cons_mk (shut_int Tryd.underlying31 w1) trodAll_mk0)), rfl, bel.frame _, fun h => by cases h⟩

theorem over : Rows.packetSumsRow.holds Tryd.pinned (OpenSpec.ofChange Rows.packetSumsSpec) :=
  OpenClaim.holds_of_cond 7 Tryd.f7 rfl rfl rfl rfl rfl rfl rfl ⟨rfl, rfl, rfl, rfl, rfl⟩ rfl rfl rfl rfl rfl (by kernel_rfl) Tryd.func7 (by kernel_rfl)
    (of_decide_eq_true (by kernel_rfl)) (by unfold Func.isWrapper; first | (rw [if_pos (by decide +kernel)]; kernel_rfl) | (rw [if_neg (by decide +kernel)]; exact ⟨rfl, rfl⟩))
    (fun os started H enc _ F => by rw [OpenClaim.pre_eq_preRow]; exact lifted os started H enc F)

/-- No parameter wants a stand-in; the program's own looks are off. -/
theorem plain (f : FuncId) (fn : Func) (hf : Tryd.pinned.checked.prog.funcNamed Rows.packetSumsRow.func = some f) (hfn : Tryd.pinned.checked.prog.funcs[f]? = some fn) :
    false = Tryd.pinned.checked.prog.looks [] ∧ ∀ (j : Nat) t, fn.params[j]? = some t → Tryd.pinned.checked.prog.wantsStandIn t = false := by
  obtain rfl : f = 7 := Option.some.inj ((show Tryd.prog.funcNamed Rows.packetSumsRow.func = some 7 by kernel_rfl).symm.trans hf) |>.symm
  obtain rfl : fn = Tryd.f7 := (Option.some.inj (Tryd.func7.symm.trans hfn)).symm
  refine ⟨by kernel_rfl, fun j t ht => ?_⟩
  rw [Tryd.params7] at ht
  have hm : t ∈ [33, 31] := by simpa using Array.mem_of_getElem? ht
  have hall : ([33, 31].all fun u => !Tryd.prog.wantsStandIn u) = true := by kernel_rfl
  exact (show Tryd.prog.wantsStandIn t = false by simpa using List.all_eq_true.1 hall t hm)

theorem proved : Rows.PacketSumsCardSaid :=
  Claim7.holds_tied_plain_at .later [] _ _ _ _ over (fun _ h => by cases h) (by kernel_rfl) (fun _ h => by cases h) packetSums_row_tie rfl ⟨rfl, rfl⟩ (by kernel_rfl) rfl plain (by kernel_rfl)
#print axioms proved
end Go.Proofs.YtinllnaekcifjaaDoor.packetSums
