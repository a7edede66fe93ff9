/- Contracts and mathematics of the layers below (TcParD, TcParse). -/
import Derived.Test.YtpjaajeojiaeiaaGreatDoorTcB
import Derived.Test.YtpjaajeojiaeiaaGreatDoorCl
/- What Parse computes, as plain functions; what lies in memory while it reads. -/
namespace Go.Proofs.YtpjaajeojiaeiaaGreatDoor.Tc
open Go.ChangeShapes Go.WideShapes Go.ChangeAt Go.RowKit

theorem got_lo (s : ByteArray) (p k : Int) : 0 ≤ got s p k := by
 unfold got
 split
 ·exact Int.natCast_nonneg _
 ·exact Int.le_refl 0
theorem got_lt (s : ByteArray) (p : Int) (k : Nat) : got s p k < (256 ^ k : Nat) := by
 unfold got
 split
 ·rename_i h
  obtain ⟨_, h3, h4⟩ := (gotB_iff s p k).1 h
  have hl := Oct.len_eq s
  have := Oct.num_lt k ((s.data.toList.drop p.toNat).take (k : Int).toNat) (by rw [List.length_take, List.length_drop, hl]; omega)
  exact_mod_cast this
 ·have := Nat.pow_pos (n := k) (show 0 < 256 by decide)
  omega
theorem got_hi2 (s : ByteArray) (p : Int) : got s p 2 ≤ 65535 := by have := got_lt s p 2; simp at this; omega
theorem got_hi4 (s : ByteArray) (p : Int) : got s p 4 ≤ 4294967295 := by have := got_lt s p 4; simp at this; omega
/-- The header's size, as the segment says it; its options, its body. -/
def hsz (s : ByteArray) : Int := got s 12 2 / 4096 * 4
def pO (s : ByteArray) : ByteArray := s.extract 20 (hsz s).toNat
def pB (s : ByteArray) : ByteArray := s.extract (hsz s).toNat s.size
def pH (s : ByteArray) : Hd := ⟨got s 0 2, got s 2 2, got s 4 4, got s 8 4, got s 12 2 % 4096, got s 14 2, got s 18 2, pO s⟩
def parseE (s : ByteArray) : Int := if s.size < 20 then 2 else if hsz s < 20 then 4 else if (s.size : Int) < hsz s then 4 else if optsOk (pO s).data.toList = true then 0 else 6
def parseH (s : ByteArray) : Hd := if parseE s = 0 then pH s else zeroHd
def parseS (s : ByteArray) : ByteArray := if parseE s = 0 then pB s else ⟨#[]⟩
theorem parseH_no {s : ByteArray} (h : ¬ parseE s = 0) : parseH s = zeroHd := if_neg h
theorem parseS_no {s : ByteArray} (h : ¬ parseE s = 0) : parseS s = ⟨#[]⟩ := if_neg h
theorem hsz_lo (s : ByteArray) : 0 ≤ hsz s := by unfold hsz; have := got_lo s 12 2; omega
theorem hsz_hi (s : ByteArray) : hsz s ≤ 60 := by unfold hsz; have := got_hi2 s 12; omega
theorem and_flags (n : Int) (h0 : 0 ≤ n) (h1 : n ≤ 65535) : bits .and .i64 n 4095 = n % 4096 := bits_mask .i64 40 (by decide) Oct.wraps_i64 12 (by decide) n h0 (by omega)

theorem size_set (W : World) (p : Addr) (v : Value) : (W.setCell p v).heap.size = W.heap.size := by simp
/-- What lies in memory while Parse reads: the header's variable, and three numbers. -/
structure ParSt (w W : World) (h : Hd) (x y z : Int) : Prop where
 hd : NewHd W w.heap.size h
 cx : W.cell? ⟨w.heap.size + 1, 0, none⟩ = some (.int .i64 x)
 cy : W.cell? ⟨w.heap.size + 1 + 1, 0, none⟩ = some (.int .i64 y)
 cz : W.cell? ⟨w.heap.size + 1 + 1 + 1, 0, none⟩ = some (.int .i64 z)
 fx : W.frozen? ⟨w.heap.size + 1, 0, none⟩ = false
 fy : W.frozen? ⟨w.heap.size + 1 + 1, 0, none⟩ = false
 fz : W.frozen? ⟨w.heap.size + 1 + 1 + 1, 0, none⟩ = false
 below : Below w.heap.size w W
 size : w.heap.size + 4 ≤ W.heap.size
section
variable {w W W' : World} {h : Hd} {x y z : Int}
theorem ParSt.on (st : ParSt w W h x y z) (hb : Below W.heap.size W W') : ParSt w W' h x y z := by
 have hs := st.size
 exact ⟨st.hd.on hb (by omega), (hb.cell (p := ⟨w.heap.size + 1, 0, none⟩) (by simp; omega)).trans st.cx, (hb.cell (p := ⟨w.heap.size + 1 + 1, 0, none⟩) (by simp; omega)).trans st.cy, (hb.cell (p := ⟨w.heap.size + 1 + 1 + 1, 0, none⟩) (by simp; omega)).trans st.cz,
  (hb.frozen (p := ⟨w.heap.size + 1, 0, none⟩) (by simp; omega)).trans st.fx, (hb.frozen (p := ⟨w.heap.size + 1 + 1, 0, none⟩) (by simp; omega)).trans st.fy, (hb.frozen (p := ⟨w.heap.size + 1 + 1 + 1, 0, none⟩) (by simp; omega)).trans st.fz,
  st.below.trans (hb.mono (by omega)), Nat.le_trans hs hb.size⟩
theorem ParSt.on' (st : ParSt w W h x y z) (hb : Below W.heap.size W.drew W') : ParSt w W' h x y z := st.on ⟨hb.os, hb.tape, hb.output, hb.size, hb.block⟩
theorem ParSt.src (st : ParSt w W h x y z) (v : Int) : ParSt w (W.setCell ⟨w.heap.size, 0, none⟩ (.int .i64 v)) { h with src := v } x y z :=
 ⟨st.hd.src v, by rw [World.cell?_setCell_other _ _ _ _ (fun e => by injection e with e; omega)]; exact st.cx, by rw [World.cell?_setCell_other _ _ _ _ (fun e => by injection e with e; omega)]; exact st.cy, by rw [World.cell?_setCell_other _ _ _ _ (fun e => by injection e with e; omega)]; exact st.cz,
  by rw [World.frozen?_setCell]; exact st.fx, by rw [World.frozen?_setCell]; exact st.fy, by rw [World.frozen?_setCell]; exact st.fz, st.below.setCell (Nat.le_refl _) _, by rw [size_set]; exact st.size⟩
theorem ParSt.dst (st : ParSt w W h x y z) (v : Int) : ParSt w (W.setCell ⟨w.heap.size, 1, none⟩ (.int .i64 v)) { h with dst := v } x y z :=
 ⟨st.hd.dst v, by rw [World.cell?_setCell_other _ _ _ _ (fun e => by injection e with e; omega)]; exact st.cx, by rw [World.cell?_setCell_other _ _ _ _ (fun e => by injection e with e; omega)]; exact st.cy, by rw [World.cell?_setCell_other _ _ _ _ (fun e => by injection e with e; omega)]; exact st.cz,
  by rw [World.frozen?_setCell]; exact st.fx, by rw [World.frozen?_setCell]; exact st.fy, by rw [World.frozen?_setCell]; exact st.fz, st.below.setCell (Nat.le_refl _) _, by rw [size_set]; exact st.size⟩
theorem ParSt.seq (st : ParSt w W h x y z) (v : Int) : ParSt w (W.setCell ⟨w.heap.size, 2, none⟩ (.int .u32 v)) { h with seq := v } x y z :=
 ⟨st.hd.seq v, by rw [World.cell?_setCell_other _ _ _ _ (fun e => by injection e with e; omega)]; exact st.cx, by rw [World.cell?_setCell_other _ _ _ _ (fun e => by injection e with e; omega)]; exact st.cy, by rw [World.cell?_setCell_other _ _ _ _ (fun e => by injection e with e; omega)]; exact st.cz,
  by rw [World.frozen?_setCell]; exact st.fx, by rw [World.frozen?_setCell]; exact st.fy, by rw [World.frozen?_setCell]; exact st.fz, st.below.setCell (Nat.le_refl _) _, by rw [size_set]; exact st.size⟩
theorem ParSt.ack (st : ParSt w W h x y z) (v : Int) : ParSt w (W.setCell ⟨w.heap.size, 3, none⟩ (.int .u32 v)) { h with ack := v } x y z :=
 ⟨st.hd.ack v, by rw [World.cell?_setCell_other _ _ _ _ (fun e => by injection e with e; omega)]; exact st.cx, by rw [World.cell?_setCell_other _ _ _ _ (fun e => by injection e with e; omega)]; exact st.cy, by rw [World.cell?_setCell_other _ _ _ _ (fun e => by injection e with e; omega)]; exact st.cz,
  by rw [World.frozen?_setCell]; exact st.fx, by rw [World.frozen?_setCell]; exact st.fy, by rw [World.frozen?_setCell]; exact st.fz, st.below.setCell (Nat.le_refl _) _, by rw [size_set]; exact st.size⟩
theorem ParSt.flags (st : ParSt w W h x y z) (v : Int) : ParSt w (W.setCell ⟨w.heap.size, 4, none⟩ (.int .i64 v)) { h with flags := v } x y z :=
 ⟨st.hd.flags v, by rw [World.cell?_setCell_other _ _ _ _ (fun e => by injection e with e; omega)]; exact st.cx, by rw [World.cell?_setCell_other _ _ _ _ (fun e => by injection e with e; omega)]; exact st.cy, by rw [World.cell?_setCell_other _ _ _ _ (fun e => by injection e with e; omega)]; exact st.cz,
  by rw [World.frozen?_setCell]; exact st.fx, by rw [World.frozen?_setCell]; exact st.fy, by rw [World.frozen?_setCell]; exact st.fz, st.below.setCell (Nat.le_refl _) _, by rw [size_set]; exact st.size⟩
theorem ParSt.win (st : ParSt w W h x y z) (v : Int) : ParSt w (W.setCell ⟨w.heap.size, 5, none⟩ (.int .i64 v)) { h with win := v } x y z :=
 ⟨st.hd.win v, by rw [World.cell?_setCell_other _ _ _ _ (fun e => by injection e with e; omega)]; exact st.cx, by rw [World.cell?_setCell_other _ _ _ _ (fun e => by injection e with e; omega)]; exact st.cy, by rw [World.cell?_setCell_other _ _ _ _ (fun e => by injection e with e; omega)]; exact st.cz,
  by rw [World.frozen?_setCell]; exact st.fx, by rw [World.frozen?_setCell]; exact st.fy, by rw [World.frozen?_setCell]; exact st.fz, st.below.setCell (Nat.le_refl _) _, by rw [size_set]; exact st.size⟩
theorem ParSt.urg (st : ParSt w W h x y z) (v : Int) : ParSt w (W.setCell ⟨w.heap.size, 6, none⟩ (.int .i64 v)) { h with urg := v } x y z :=
 ⟨st.hd.urg v, by rw [World.cell?_setCell_other _ _ _ _ (fun e => by injection e with e; omega)]; exact st.cx, by rw [World.cell?_setCell_other _ _ _ _ (fun e => by injection e with e; omega)]; exact st.cy, by rw [World.cell?_setCell_other _ _ _ _ (fun e => by injection e with e; omega)]; exact st.cz,
  by rw [World.frozen?_setCell]; exact st.fx, by rw [World.frozen?_setCell]; exact st.fy, by rw [World.frozen?_setCell]; exact st.fz, st.below.setCell (Nat.le_refl _) _, by rw [size_set]; exact st.size⟩
theorem ParSt.opts (st : ParSt w W h x y z) (v : ByteArray) : ParSt w (W.setCell ⟨w.heap.size, 7, none⟩ (.string v)) { h with opts := v } x y z :=
 ⟨st.hd.opts v, by rw [World.cell?_setCell_other _ _ _ _ (fun e => by injection e with e; omega)]; exact st.cx, by rw [World.cell?_setCell_other _ _ _ _ (fun e => by injection e with e; omega)]; exact st.cy, by rw [World.cell?_setCell_other _ _ _ _ (fun e => by injection e with e; omega)]; exact st.cz,
  by rw [World.frozen?_setCell]; exact st.fx, by rw [World.frozen?_setCell]; exact st.fy, by rw [World.frozen?_setCell]; exact st.fz, st.below.setCell (Nat.le_refl _) _, by rw [size_set]; exact st.size⟩
theorem ParSt.setx (st : ParSt w W h x y z) (v : Int) : ParSt w (W.setCell ⟨w.heap.size + 1, 0, none⟩ (.int .i64 v)) h v y z :=
 ⟨st.hd.set (by simp <;> omega) _, World.cell?_setCell_same _ _ _ st.cx, by rw [World.cell?_setCell_other _ _ _ _ (fun e => by injection e with e; omega)]; exact st.cy, by rw [World.cell?_setCell_other _ _ _ _ (fun e => by injection e with e; omega)]; exact st.cz,
  by rw [World.frozen?_setCell]; exact st.fx, by rw [World.frozen?_setCell]; exact st.fy, by rw [World.frozen?_setCell]; exact st.fz, st.below.setCell (by simp <;> omega) _, by rw [size_set]; exact st.size⟩
theorem ParSt.sety (st : ParSt w W h x y z) (v : Int) : ParSt w (W.setCell ⟨w.heap.size + 1 + 1, 0, none⟩ (.int .i64 v)) h x v z :=
 ⟨st.hd.set (by simp <;> omega) _, by rw [World.cell?_setCell_other _ _ _ _ (fun e => by injection e with e; omega)]; exact st.cx, World.cell?_setCell_same _ _ _ st.cy, by rw [World.cell?_setCell_other _ _ _ _ (fun e => by injection e with e; omega)]; exact st.cz,
  by rw [World.frozen?_setCell]; exact st.fx, by rw [World.frozen?_setCell]; exact st.fy, by rw [World.frozen?_setCell]; exact st.fz, st.below.setCell (by simp <;> omega) _, by rw [size_set]; exact st.size⟩
theorem ParSt.setz (st : ParSt w W h x y z) (v : Int) : ParSt w (W.setCell ⟨w.heap.size + 1 + 1 + 1, 0, none⟩ (.int .i64 v)) h x y v :=
 ⟨st.hd.set (by simp <;> omega) _, by rw [World.cell?_setCell_other _ _ _ _ (fun e => by injection e with e; omega)]; exact st.cx, by rw [World.cell?_setCell_other _ _ _ _ (fun e => by injection e with e; omega)]; exact st.cy, World.cell?_setCell_same _ _ _ st.cz,
  by rw [World.frozen?_setCell]; exact st.fx, by rw [World.frozen?_setCell]; exact st.fy, by rw [World.frozen?_setCell]; exact st.fz, st.below.setCell (by simp <;> omega) _, by rw [size_set]; exact st.size⟩
end
end Go.Proofs.YtpjaajeojiaeiaaGreatDoor.Tc

/- What Parse computes: the header and the body of a segment, or the first error. -/
namespace Go.Proofs.YtpjaajeojiaeiaaGreatDoor.Tc
open Go.ChangeShapes Go.WideShapes Go.ChangeAt Go.RowKit

theorem parSt_new (w : World) : ParSt w ((((w.alloc (.cells #[.int .i64 0, .int .i64 0, .int .u32 0, .int .u32 0, .int .i64 0, .int .i64 0, .int .i64 0, .string ⟨#[]⟩] 154)).alloc (.cells #[.int .i64 0] 3)).alloc (.cells #[.int .i64 0] 3)).alloc (.cells #[.int .i64 0] 3)) zeroHd 0 0 0 ∧ ((((w.alloc (.cells #[.int .i64 0, .int .i64 0, .int .u32 0, .int .u32 0, .int .i64 0, .int .i64 0, .int .i64 0, .string ⟨#[]⟩] 154)).alloc (.cells #[.int .i64 0] 3)).alloc (.cells #[.int .i64 0] 3)).alloc (.cells #[.int .i64 0] 3)).heap.size = w.heap.size + 1 + 1 + 1 + 1 := by
 refine ⟨⟨?_, by simp [go_sem], by simp [go_sem], by simp [go_sem], by simp [go_sem], by simp [go_sem], by simp [go_sem], ?_, by simp⟩, by simp⟩
 ·have h := newHd w zeroHd 154
  simp only [zeroHd] at h
  exact ((h.on (alloc_on _ _) (by simp)).on (alloc_on _ _) (by simp; omega)).on (alloc_on _ _) (by simp; omega)
 ·(repeat first | exact Below.refl _ _ | refine Below.drew ?_ | refine Below.alloc ?_ (by simp <;> omega) _ | refine Below.setCell ?_ (by simp <;> omega) _)
theorem ptr2_0 (V : World) (p q : Addr) (t : TypeId) (g : Nat) (hg : V.heap.size = g) : (V.alloc (.cells #[.pointer (some p), .pointer (some q)] t)).cell? ⟨g, 0, none⟩ = some (.pointer (some p)) := by subst hg; simp [go_sem]
theorem ptr2_1 (V : World) (p q : Addr) (t : TypeId) (g : Nat) (hg : V.heap.size = g) : (V.alloc (.cells #[.pointer (some p), .pointer (some q)] t)).cell? ⟨g, 1, none⟩ = some (.pointer (some q)) := by subst hg; simp [go_sem]
theorem ptr1_0 (V : World) (p : Addr) (t : TypeId) (g : Nat) (hg : V.heap.size = g) : (V.alloc (.cells #[.pointer (some p)] t)).cell? ⟨g, 0, none⟩ = some (.pointer (some p)) := by subst hg; simp [go_sem]
theorem wrap_u32 (n : Int) (h0 : 0 ≤ n) (h1 : n ≤ 4294967295) : IntKind.u32.wrap n = n := by rw [IntKind.wrap_u32]; omega

set_option maxRecDepth 100000 in
set_option maxHeartbeats 4000000 in
theorem parse_short (s : ByteArray) (w : World) (h20 : s.size < 20) :
  Calls Tryz.prog 106 #[.string s] w fun e w' => e = .returned (.tuple #[(parseH s).val, .string (parseS s), .int .i64 (parseE s)]) ∧ Below w.heap.size w w' := by
 have hd20 : decide ((s.size : Int) < 20) = true := by simp; omega
 have HE : Hid (parseE s = 2) := by show _ = _; unfold parseE; rw [if_pos h20]
 have HH : Hid (parseH s = zeroHd) := parseH_no (by rw [HE.out]; decide)
 have HS : Hid (parseS s = ⟨#[]⟩) := parseS_no (by rw [HE.out]; decide)
 go_enter Tryz.func106, Tryz.ntmps106
 go_wp2_with fail
 rw [HH.out, HS.out, HE.out]
 refine bodyPost_ret (v := .tuple #[.agg #[.int .i64 0, .int .i64 0, .int .u32 0, .int .u32 0, .int .i64 0, .int .i64 0, .int .i64 0, .string ⟨#[]⟩], .string ⟨#[]⟩, .int .i64 2]) (by simp [results, Tryz.results106, go_sem]) rfl ⟨rfl, ?_⟩
 (repeat first | exact Below.refl _ _ | refine Below.drew ?_ | refine Below.alloc ?_ (by simp <;> omega) _ | refine Below.setCell ?_ (by simp <;> omega) _)

set_option maxRecDepth 100000 in
set_option maxHeartbeats 4000000 in
theorem parse_any (s : ByteArray) (w : World) (hs : s.size ≤ 281474976710656) :
  Calls Tryz.prog 106 #[.string s] w fun e w' => e = .returned (.tuple #[(parseH s).val, .string (parseS s), .int .i64 (parseE s)]) ∧ Below w.heap.size w w' := by
 by_cases h20 : s.size < 20
 ·exact parse_short s w h20
 have hd20 : decide ((s.size : Int) < 20) = false := by simp; omega
 have hsm : s.size ≤ maxLen := by unfold maxLen; omega
 have hs9 : (s.size : Int) ≤ 281474976710656 := by omega
 have HV : Hid (∀ V, (((w.alloc (.cells #[.int .i64 0, .int .i64 0, .int .u32 0, .int .u32 0, .int .i64 0, .int .i64 0, .int .i64 0, .string ⟨#[]⟩] 154)).alloc (.cells #[.int .i64 0] 3)).alloc (.cells #[.int .i64 0] 3)).alloc (.cells #[.int .i64 0] 3) = V → ParSt w V zeroHd 0 0 0 ∧ V.heap.size = w.heap.size + 1 + 1 + 1 + 1) := by
  rintro V rfl
  exact parSt_new w
 go_enter Tryz.func106, Tryz.ntmps106
 go_wp2_with fail
 obtain ⟨st0, hz0⟩ := HV.out _ rfl
 clear HV
 generalize (((w.alloc (.cells #[.int .i64 0, .int .i64 0, .int .u32 0, .int .u32 0, .int .i64 0, .int .i64 0, .int .i64 0, .string ⟨#[]⟩] 154)).alloc (.cells #[.int .i64 0] 3)).alloc (.cells #[.int .i64 0] 3)).alloc (.cells #[.int .i64 0] 3) = V at *
 have st1 := st0.on (alloc_on V (.cells #[.pointer (some ⟨w.heap.size, 0, none⟩), .pointer (some ⟨w.heap.size, 1, none⟩)] 173))
 have hsV := st0.size
 refine (read2_any s 0 2 _ ⟨w.heap.size, 0, none⟩ ⟨w.heap.size, 1, none⟩ _ hsm (by decide) (by decide) (by decide) (by decide) (ptr2_0 _ _ _ _ _ hz0) (ptr2_1 _ _ _ _ _ hz0) (by simp <;> omega) _ (st1.hd.at_ 0 (by decide)) _ (st1.hd.at_ 1 (by decide)) (st1.hd.free 0) (st1.hd.free 1) (by simp)).mono ?_
 rintro e w1 ⟨rfl, he⟩
 have st2 := (st1.src (got s 0 2)).dst (got s (0 + 2) 2)
 rw [← he] at st2
 clear he st0 st1 hz0 hsV
 have HS := hide st2
 have hsV := st2.size
 clear st2
 go_wp2_with fail
 have st3 := (unhide HS).on (alloc_on w1 (.cells #[.pointer (some ⟨w.heap.size + 1, 0, none⟩), .pointer (some ⟨w.heap.size + 1 + 1, 0, none⟩)] 173))
 refine (read2_any s 4 4 _ ⟨w.heap.size + 1, 0, none⟩ ⟨w.heap.size + 1 + 1, 0, none⟩ _ hsm (by decide) (by decide) (by decide) (by decide) (ptr2_0 _ _ _ _ _ rfl) (ptr2_1 _ _ _ _ _ rfl) (by simp <;> omega) _ st3.cx _ st3.cy st3.fx st3.fy (by simp)).mono ?_
 rintro e w2 ⟨rfl, he⟩
 have st4 := (st3.setx (got s 4 4)).sety (got s (4 + 4) 4)
 rw [← he] at st4
 clear he st3 HS hsV
 have HS := hide st4
 have hsV := st4.size
 clear st4
 go_wp2_with fail
 have st5 := (unhide HS).on (alloc_on w2 (.cells #[.pointer (some ⟨w.heap.size + 1 + 1 + 1, 0, none⟩), .pointer (some ⟨w.heap.size, 5, none⟩)] 173))
 refine (read2_any s 12 2 _ ⟨w.heap.size + 1 + 1 + 1, 0, none⟩ ⟨w.heap.size, 5, none⟩ _ hsm (by decide) (by decide) (by decide) (by decide) (ptr2_0 _ _ _ _ _ rfl) (ptr2_1 _ _ _ _ _ rfl) (by simp <;> omega) _ st5.cz _ (st5.hd.at_ 5 (by decide)) st5.fz (st5.hd.free 5) (by simp <;> omega)).mono ?_
 rintro e w3 ⟨rfl, he⟩
 have st6 := (st5.setz (got s 12 2)).win (got s (12 + 2) 2)
 rw [← he] at st6
 clear he st5 HS hsV
 have HS := hide st6
 have hsV := st6.size
 clear st6
 go_wp2_with fail
 have st7 := (unhide HS).on (alloc_on w3 (.cells #[.pointer (some ⟨w.heap.size, 6, none⟩)] 173))
 refine (read1_any s 18 2 _ ⟨w.heap.size, 6, none⟩ _ hsm (by decide) (by decide) (ptr1_0 _ _ _ _ rfl) _ (st7.hd.at_ 6 (by decide)) (st7.hd.free 6)).mono ?_
 rintro e w4 ⟨rfl, he⟩
 have st8 := st7.urg (got s 18 2)
 rw [← he] at st8
 clear he st7 HS hsV
 have hpH : ∀ O, pO s = O → pH s = ⟨got s 0 2, got s 2 2, got s 4 4, got s 8 4, got s 12 2 % 4096, got s 14 2, got s 18 2, O⟩ := fun O hO => by unfold pH; rw [hO]
 have hH : got s 12 2 / 4096 * 4 = hsz s := rfl
 have b0 := got_lo s 12 2
 have b1 := got_hi2 s 12
 have b2 := got_lo s 4 4
 have b3 := got_hi4 s 4
 have b4 := got_lo s 8 4
 have b5 := got_hi4 s 8
 simp only [Int.reduceAdd, zeroHd] at st8
 have hh0 := hsz_lo s
 have hh1 := hsz_hi s
 have ST := hide st8
 have hcz := st8.cz
 clear st8
 generalize got s 12 2 = Z at *
 generalize got s 4 4 = X at *
 generalize got s 8 4 = Y at *
 generalize got s 0 2 = A0 at *
 generalize got s 2 2 = A1 at *
 generalize got s 14 2 = A5 at *
 generalize got s 18 2 = A6 at *
 have HPH := hide hpH
 clear hpH
 by_cases ha : hsz s < 20
 case pos =>
  have HE : Hid (parseE s = 4) := by show _ = _; unfold parseE; rw [if_neg h20, if_pos ha]
  have HH : Hid (parseH s = zeroHd) := parseH_no (by rw [HE.out]; decide)
  have HS : Hid (parseS s = ⟨#[]⟩) := parseS_no (by rw [HE.out]; decide)
  have d1 : decide (hsz s < 20) = true := by simpa using ha
  have r0 := ((unhide ST).hd).at_ 0 (by decide)
  have r1 := ((unhide ST).hd).at_ 1 (by decide)
  have r2 := ((unhide ST).hd).at_ 2 (by decide)
  have r3 := ((unhide ST).hd).at_ 3 (by decide)
  have r4 := ((unhide ST).hd).at_ 4 (by decide)
  have r5 := ((unhide ST).hd).at_ 5 (by decide)
  have r6 := ((unhide ST).hd).at_ 6 (by decide)
  have r7 := ((unhide ST).hd).at_ 7 (by decide)
  simp only [hcell] at r0 r1 r2 r3 r4 r5 r6 r7
  have rf := ((unhide ST).hd).free
  go_wp2_with fail
  clear r0 r1 r2 r3 r4 r5 r6 r7 rf
  have hz := setHd_at zeroHd ((unhide ST).hd).at_
  have hbz := setHd_below ((unhide ST).below) w.heap.size zeroHd (Nat.le_refl _)
  have g0 := hz 0 (by decide)
  have g1 := hz 1 (by decide)
  have g2 := hz 2 (by decide)
  have g3 := hz 3 (by decide)
  have g4 := hz 4 (by decide)
  have g5 := hz 5 (by decide)
  have g6 := hz 6 (by decide)
  have g7 := hz 7 (by decide)
  clear hz
  simp only [setHd, hcell, zeroHd] at hbz g0 g1 g2 g3 g4 g5 g6 g7
  rw [HH.out, HS.out, HE.out]
  refine bodyPost_ret (v := .tuple #[.agg #[.int .i64 0, .int .i64 0, .int .u32 0, .int .u32 0, .int .i64 0, .int .i64 0, .int .i64 0, .string ⟨#[]⟩], .string ⟨#[]⟩, .int .i64 (4)]) ?_ rfl ⟨rfl, hbz⟩
  simp [results, Tryz.results106, go_sem, g0, g1, g2, g3, g4, g5, g6, g7]
 case neg =>
 have d1 : decide (hsz s < 20) = false := by simpa using ha
 by_cases hb : (s.size : Int) < hsz s
 case pos =>
  have HE : Hid (parseE s = 4) := by show _ = _; unfold parseE; rw [if_neg h20, if_neg ha, if_pos hb]
  have HH : Hid (parseH s = zeroHd) := parseH_no (by rw [HE.out]; decide)
  have HS : Hid (parseS s = ⟨#[]⟩) := parseS_no (by rw [HE.out]; decide)
  have d2 : decide ((s.size : Int) < hsz s) = true := by simpa using hb
  have r0 := ((unhide ST).hd).at_ 0 (by decide)
  have r1 := ((unhide ST).hd).at_ 1 (by decide)
  have r2 := ((unhide ST).hd).at_ 2 (by decide)
  have r3 := ((unhide ST).hd).at_ 3 (by decide)
  have r4 := ((unhide ST).hd).at_ 4 (by decide)
  have r5 := ((unhide ST).hd).at_ 5 (by decide)
  have r6 := ((unhide ST).hd).at_ 6 (by decide)
  have r7 := ((unhide ST).hd).at_ 7 (by decide)
  simp only [hcell] at r0 r1 r2 r3 r4 r5 r6 r7
  have rf := ((unhide ST).hd).free
  go_wp2_with fail
  clear r0 r1 r2 r3 r4 r5 r6 r7 rf
  have hz := setHd_at zeroHd ((unhide ST).hd).at_
  have hbz := setHd_below ((unhide ST).below) w.heap.size zeroHd (Nat.le_refl _)
  have g0 := hz 0 (by decide)
  have g1 := hz 1 (by decide)
  have g2 := hz 2 (by decide)
  have g3 := hz 3 (by decide)
  have g4 := hz 4 (by decide)
  have g5 := hz 5 (by decide)
  have g6 := hz 6 (by decide)
  have g7 := hz 7 (by decide)
  clear hz
  simp only [setHd, hcell, zeroHd] at hbz g0 g1 g2 g3 g4 g5 g6 g7
  rw [HH.out, HS.out, HE.out]
  refine bodyPost_ret (v := .tuple #[.agg #[.int .i64 0, .int .i64 0, .int .u32 0, .int .u32 0, .int .i64 0, .int .i64 0, .int .i64 0, .string ⟨#[]⟩], .string ⟨#[]⟩, .int .i64 (4)]) ?_ rfl ⟨rfl, hbz⟩
  simp [results, Tryz.results106, go_sem, g0, g1, g2, g3, g4, g5, g6, g7]
 case neg =>
 have d2 : decide ((s.size : Int) < hsz s) = false := by simpa using hb
 have hO : s.extract 20 (hsz s).toNat = pO s := rfl
 have hB : s.extract (hsz s).toNat s.size = pB s := rfl
 have hoz : (pO s).size ≤ 140737488355328 := by rw [← hO, Oct.ext_size _ _ _ (by omega)]; omega
 have hbz0 : (pB s).size ≤ 281474976710656 := by rw [← hB, Oct.ext_size _ _ _ (Nat.le_refl _)]; omega
 have h20' : (20 : Int) ≤ hsz s := by omega
 have hle : hsz s ≤ s.size := by omega
 go_wp2_with fail
 refine (toptsRight_any _ _ hoz).mono ?_
 rintro e w5 ⟨rfl, hq⟩
 have hq := hq.symm
 subst hq
 cases hop : optsOk (pO s).data.toList with
 | false =>
  have HE : Hid (parseE s = 6) := by show _ = _; unfold parseE; rw [if_neg (show ¬ s.size < 20 by omega), if_neg (show ¬ hsz s < 20 by omega), if_neg (show ¬ (s.size : Int) < hsz s by omega), if_neg (by rw [hop]; decide)]
  have HH : Hid (parseH s = zeroHd) := parseH_no (by rw [HE.out]; decide)
  have HS : Hid (parseS s = ⟨#[]⟩) := parseS_no (by rw [HE.out]; decide)
  have r0 := ((unhide ST).hd).at_ 0 (by decide)
  have r1 := ((unhide ST).hd).at_ 1 (by decide)
  have r2 := ((unhide ST).hd).at_ 2 (by decide)
  have r3 := ((unhide ST).hd).at_ 3 (by decide)
  have r4 := ((unhide ST).hd).at_ 4 (by decide)
  have r5 := ((unhide ST).hd).at_ 5 (by decide)
  have r6 := ((unhide ST).hd).at_ 6 (by decide)
  have r7 := ((unhide ST).hd).at_ 7 (by decide)
  simp only [hcell] at r0 r1 r2 r3 r4 r5 r6 r7
  have rf := ((unhide ST).hd).free
  go_wp2_with fail
  clear r0 r1 r2 r3 r4 r5 r6 r7 rf
  have hz := setHd_at zeroHd ((unhide ST).hd).at_
  have hbz := setHd_below ((unhide ST).below) w.heap.size zeroHd (Nat.le_refl _)
  have g0 := hz 0 (by decide)
  have g1 := hz 1 (by decide)
  have g2 := hz 2 (by decide)
  have g3 := hz 3 (by decide)
  have g4 := hz 4 (by decide)
  have g5 := hz 5 (by decide)
  have g6 := hz 6 (by decide)
  have g7 := hz 7 (by decide)
  clear hz
  simp only [setHd, hcell, zeroHd] at hbz g0 g1 g2 g3 g4 g5 g6 g7
  rw [HH.out, HS.out, HE.out]
  refine bodyPost_ret (v := .tuple #[.agg #[.int .i64 0, .int .i64 0, .int .u32 0, .int .u32 0, .int .i64 0, .int .i64 0, .int .i64 0, .string ⟨#[]⟩], .string ⟨#[]⟩, .int .i64 (6)]) ?_ rfl ⟨rfl, hbz⟩
  simp [results, Tryz.results106, go_sem, g0, g1, g2, g3, g4, g5, g6, g7]
 | true =>
  have HE : Hid (parseE s = 0) := by show _ = _; unfold parseE; rw [if_neg (show ¬ s.size < 20 by omega), if_neg (show ¬ hsz s < 20 by omega), if_neg (show ¬ (s.size : Int) < hsz s by omega), if_pos hop]
  have HH : Hid (parseH s = pH s) := by show _ = _; unfold parseH; rw [HE.out, if_pos rfl]
  have HS : Hid (parseS s = pB s) := by show _ = _; unfold parseS; rw [HE.out, if_pos rfl]
  clear hop d1 d2 ha hb
  have HPH2 := hide (unhide HPH _ rfl)
  clear HPH
  generalize pO s = O at *
  generalize pB s = B at *
  have hcx := (unhide ST).cx
  have hcy := (unhide ST).cy
  have kx := wrap_u32 X b2 b3
  have ky := wrap_u32 Y b4 b5
  have kz := and_flags Z b0 b1
  have st9 := ((unhide ST).seq X).ack Y
  have hcz9 := st9.cz
  have r2 := (unhide ST).hd.at_ 2 (by decide)
  have rf := (unhide ST).hd.free
  have r3 := ((unhide ST).seq X).hd.at_ 3 (by decide)
  have rg := ((unhide ST).seq X).hd.free
  have r4 := st9.hd.at_ 4 (by decide)
  have ri := st9.hd.free
  simp only [hcell] at r2 r3 r4
  have ST9 := hide (st9.flags (Z % 4096))
  clear st9
  go_wp2_with fail
  clear r2 r3 r4 rf rg ri hcx hcy hcz9 hcz
  refine (clone_any O _ (by omega)).mono ?_
  rintro e w6 ⟨rfl, hb6⟩
  have st10 := (unhide ST9).on hb6
  clear hb6 ST9 ST
  have r7 := st10.hd.at_ 7 (by decide)
  have rf := st10.hd.free
  simp only [hcell] at r7
  have ST10 := hide (st10.opts O)
  clear st10
  go_wp2_with fail
  have st := unhide ST10
  clear ST10 r7 rf
  simp only [← unhide HPH2] at st
  generalize w6.setCell ⟨w.heap.size, 7, none⟩ (.string O) = V6 at *
  have hHval : (pH s).val = .agg #[.int .i64 (pH s).src, .int .i64 (pH s).dst, .int .u32 (pH s).seq, .int .u32 (pH s).ack, .int .i64 (pH s).flags, .int .i64 (pH s).win, .int .i64 (pH s).urg, .string (pH s).opts] := rfl
  generalize pH s = H at *
  have hlt : w.heap.size < V6.heap.size := by have := st.size; omega
  refine wp_region_grow_store (by kernel_rfl) [.agg #[.int .i64 H.src, .int .i64 H.dst, .int .u32 H.seq, .int .u32 H.ack, .int .i64 H.flags, .int .i64 H.win, .int .i64 H.urg, .string H.opts], .string s, .int .i64 (hsz s), .string B, .string B, undef, .string B, .int .i64 (0)] 5 (fun v => setHd v w.heap.size H) (by kernel_rfl) (by decide) rfl ?op ?store ?fin
  case op =>
   intro i o bx u ho hne hbel hS
   match i, ho with
   | 0, ho =>
    obtain rfl := Option.some.inj ho
    have d2 : bx.tmps.getD 2 undef = .pointer (some ⟨w.heap.size, 0, none⟩) := hS.base 2
    have hn := (st.on' (hbel (by kernel_rfl))).hd.at_
    have r0 := hn 0 (by decide)
    have r1 := hn 1 (by decide)
    have r2 := hn 2 (by decide)
    have r3 := hn 3 (by decide)
    have r4 := hn 4 (by decide)
    have r5 := hn 5 (by decide)
    have r6 := hn 6 (by decide)
    have r7 := hn 7 (by decide)
    simp only [hcell] at r0 r1 r2 r3 r4 r5 r6 r7
    refine .inl ⟨rfl, ends_value (c := .agg #[.int .i64 H.src, .int .i64 H.dst, .int .u32 H.seq, .int .u32 H.ack, .int .i64 H.flags, .int .i64 H.win, .int .i64 H.urg, .string H.opts]) ?_⟩
    simp [Act.eval, d2, go_sem, r0, r1, r2, r3, r4, r5, r6, r7]
   | 1, ho =>
    obtain rfl := Option.some.inj ho
    have d0 : bx.tmps.getD 0 undef = .string s := hS.base 0
    refine .inl ⟨rfl, ends_value (c := .string s) ?_⟩
    simp [execOp, Act.eval, d0]
   | 2, ho =>
    obtain rfl := Option.some.inj ho
    have d8 : bx.tmps.getD 8 undef = .int .i64 (hsz s) := hS.base 8
    refine .inl ⟨rfl, ends_value (c := .int .i64 (hsz s)) ?_⟩
    simp [execOp, Act.eval, d8]
   | 3, ho =>
    obtain rfl := Option.some.inj ho
    have d62 : bx.tmps.getD 62 undef = .string s := hS.dep 1 62
    have d63 : bx.tmps.getD 63 undef = .int .i64 (hsz s) := hS.dep 2 63
    refine .inl ⟨rfl, ends_value (c := .string B) ?_⟩
    simp [Act.eval, d62, d63, go_sem, hle, hB, hh0]
   | 4, ho =>
    obtain rfl := Option.some.inj ho
    have d64 : bx.tmps.getD 64 undef = .string B := hS.dep 3 64
    refine .inl ⟨rfl, ends_call (c := .string B) (by kernel_rfl) (f := 69) (args := #[.string B]) ?_ (clone_any B u hbz0)⟩
    simp [Act.eval, d64, go_sem]
   | 5, _ => exact absurd rfl hne
   | 6, ho =>
    obtain rfl := Option.some.inj ho
    have d65 : bx.tmps.getD 65 undef = .string B := hS.dep 4 65
    refine .inl ⟨rfl, ends_value (c := .string B) ?_⟩
    simp [execOp, Act.eval, d65]
   | 7, ho =>
    obtain rfl := Option.some.inj ho
    refine .inl ⟨rfl, ends_value (c := .int .i64 (0)) ?_⟩
    simp [execOp, Act.eval]
   | n + 8, ho => exact absurd ho (by simp)
  case store =>
   intro o bx u ho hbel hS
   obtain rfl := Option.some.inj ho
   have d2 : bx.tmps.getD 2 undef = .pointer (some ⟨w.heap.size, 0, none⟩) := hS.base 2
   have d61 : bx.tmps.getD 61 undef = .agg #[.int .i64 H.src, .int .i64 H.dst, .int .u32 H.seq, .int .u32 H.ack, .int .i64 H.flags, .int .i64 H.win, .int .i64 H.urg, .string H.opts] := hS.dep 0 61
   have hn := (st.on' hbel).hd
   have r0 := hn.at_ 0 (by decide)
   have r1 := hn.at_ 1 (by decide)
   have r2 := hn.at_ 2 (by decide)
   have r3 := hn.at_ 3 (by decide)
   have r4 := hn.at_ 4 (by decide)
   have r5 := hn.at_ 5 (by decide)
   have r6 := hn.at_ 6 (by decide)
   have r7 := hn.at_ 7 (by decide)
   simp only [hcell] at r0 r1 r2 r3 r4 r5 r6 r7
   have rf := hn.free
   unfold setHd
   refine ⟨rfl, ?_⟩
   simp [Act.eval, d2, d61, go_sem, r0, r1, r2, r3, r4, r5, r6, r7, rf]
  case fin =>
   intro u hbel
   simp [putAll, dstAt, Act.put]
   have stu := st.on' hbel
   have hz := setHd_at H stu.hd.at_
   have hbz := setHd_below stu.below w.heap.size H (Nat.le_refl _)
   generalize setHd u w.heap.size H = z at *
   go_wp2_with fail
   have g0 := hz 0 (by decide)
   have g1 := hz 1 (by decide)
   have g2 := hz 2 (by decide)
   have g3 := hz 3 (by decide)
   have g4 := hz 4 (by decide)
   have g5 := hz 5 (by decide)
   have g6 := hz 6 (by decide)
   have g7 := hz 7 (by decide)
   simp only [hcell] at g0 g1 g2 g3 g4 g5 g6 g7
   rw [HH.out, HS.out, HE.out]
   refine bodyPost_ret (v := .tuple #[.agg #[.int .i64 H.src, .int .i64 H.dst, .int .u32 H.seq, .int .u32 H.ack, .int .i64 H.flags, .int .i64 H.win, .int .i64 H.urg, .string H.opts], .string B, .int .i64 0]) ?_ rfl ⟨rfl, hbz⟩
   simp [results, Tryz.results106, go_sem, g0, g1, g2, g3, g4, g5, g6, g7]
end Go.Proofs.YtpjaajeojiaeiaaGreatDoor.Tc
