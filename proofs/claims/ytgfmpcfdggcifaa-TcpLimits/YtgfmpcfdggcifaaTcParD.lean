/- What Parse computes, as plain functions; what lies in memory while it reads. -/
import Derived.Test.YtgfmpcfdggcifaaTcBuild
import Derived.Test.YtgfmpcfdggcifaaIpClone
namespace Go.Proofs.Ytgfmpcfdggcifaa
open Go.ChangeShapes Go.WideShapes Go.ChangeAt Go.RowKit

theorem got_lo (s : ByteArray) (p k : Int) : 0 ≤ got s p k := by
  unfold got
  split
  · exact Int.natCast_nonneg _
  · exact Int.le_refl 0
theorem got_lt (s : ByteArray) (p : Int) (k : Nat) : got s p k < (256 ^ k : Nat) := by
  unfold got
  split
  · rename_i h
    obtain ⟨_, h3, h4⟩ := (gotB_iff s p k).1 h
    have hl := Oct.len_eq s
    have := Oct.num_lt k ((s.data.toList.drop p.toNat).take (k : Int).toNat) (by rw [List.length_take, List.length_drop, hl]; omega)
    exact_mod_cast this
  · have := Nat.pow_pos (n := k) (show 0 < 256 by decide)
    omega
theorem got_hi2 (s : ByteArray) (p : Int) : got s p 2 ≤ 65535 := by have := got_lt s p 2; simp at this; omega
theorem got_hi4 (s : ByteArray) (p : Int) : got s p 4 ≤ 4294967295 := by have := got_lt s p 4; simp at this; omega
/-- The header's size, as the segment says it; its options, its body. -/
def hsz (s : ByteArray) : Int := got s 12 2 / 4096 * 4
def pO (s : ByteArray) : ByteArray := s.extract 20 (hsz s).toNat
def pB (s : ByteArray) : ByteArray := s.extract (hsz s).toNat s.size
def pH (s : ByteArray) : Hd := ⟨got s 0 2, got s 2 2, got s 4 4, got s 8 4, got s 12 2 % 4096, got s 14 2, got s 18 2, pO s⟩
def parseE (s : ByteArray) : Int := if s.size < 20 then 2 else if hsz s < 20 then 4 else if (s.size : Int) < hsz s then 4 else if optsOk (pO s).data.toList = true then 0 else 6
def parseH (s : ByteArray) : Hd := if parseE s = 0 then pH s else zeroHd
def parseS (s : ByteArray) : ByteArray := if parseE s = 0 then pB s else ⟨#[]⟩
theorem parseH_no {s : ByteArray} (h : ¬ parseE s = 0) : parseH s = zeroHd := if_neg h
theorem parseS_no {s : ByteArray} (h : ¬ parseE s = 0) : parseS s = ⟨#[]⟩ := if_neg h
theorem hsz_lo (s : ByteArray) : 0 ≤ hsz s := by unfold hsz; have := got_lo s 12 2; omega
theorem hsz_hi (s : ByteArray) : hsz s ≤ 60 := by unfold hsz; have := got_hi2 s 12; omega
theorem and_flags (n : Int) (h0 : 0 ≤ n) (h1 : n ≤ 65535) : bits .and .i64 n 4095 = n % 4096 := bits_mask .i64 40 (by decide) Oct.wraps_i64 12 (by decide) n h0 (by omega)

theorem size_set (W : World) (p : Addr) (v : Value) : (W.setCell p v).heap.size = W.heap.size := by simp
/-- What lies in memory while Parse reads: the header's variable, and three numbers. -/
structure ParSt (w W : World) (h : Hd) (x y z : Int) : Prop where
  hd : NewHd W w.heap.size h
  cx : W.cell? ⟨w.heap.size + 1, 0, none⟩ = some (.int .i64 x)
  cy : W.cell? ⟨w.heap.size + 1 + 1, 0, none⟩ = some (.int .i64 y)
  cz : W.cell? ⟨w.heap.size + 1 + 1 + 1, 0, none⟩ = some (.int .i64 z)
  fx : W.frozen? ⟨w.heap.size + 1, 0, none⟩ = false
  fy : W.frozen? ⟨w.heap.size + 1 + 1, 0, none⟩ = false
  fz : W.frozen? ⟨w.heap.size + 1 + 1 + 1, 0, none⟩ = false
  below : Below w.heap.size w W
  size : w.heap.size + 4 ≤ W.heap.size
section
variable {w W W' : World} {h : Hd} {x y z : Int}
theorem ParSt.on (st : ParSt w W h x y z) (hb : Below W.heap.size W W') : ParSt w W' h x y z := by
  have hs := st.size
  exact ⟨st.hd.on hb (by omega), (hb.cell (p := ⟨w.heap.size + 1, 0, none⟩) (by simp; omega)).trans st.cx, (hb.cell (p := ⟨w.heap.size + 1 + 1, 0, none⟩) (by simp; omega)).trans st.cy, (hb.cell (p := ⟨w.heap.size + 1 + 1 + 1, 0, none⟩) (by simp; omega)).trans st.cz,
    (hb.frozen (p := ⟨w.heap.size + 1, 0, none⟩) (by simp; omega)).trans st.fx, (hb.frozen (p := ⟨w.heap.size + 1 + 1, 0, none⟩) (by simp; omega)).trans st.fy, (hb.frozen (p := ⟨w.heap.size + 1 + 1 + 1, 0, none⟩) (by simp; omega)).trans st.fz,
    st.below.trans (hb.mono (by omega)), Nat.le_trans hs hb.size⟩
theorem ParSt.on' (st : ParSt w W h x y z) (hb : Below W.heap.size W.drew W') : ParSt w W' h x y z := st.on ⟨hb.os, hb.tape, hb.output, hb.size, hb.block⟩
theorem ParSt.src (st : ParSt w W h x y z) (v : Int) : ParSt w (W.setCell ⟨w.heap.size, 0, none⟩ (.int .i64 v)) { h with src := v } x y z :=
  ⟨st.hd.src v, by rw [World.cell?_setCell_other _ _ _ _ (fun e => by injection e with e; omega)]; exact st.cx, by rw [World.cell?_setCell_other _ _ _ _ (fun e => by injection e with e; omega)]; exact st.cy, by rw [World.cell?_setCell_other _ _ _ _ (fun e => by injection e with e; omega)]; exact st.cz,
    by rw [World.frozen?_setCell]; exact st.fx, by rw [World.frozen?_setCell]; exact st.fy, by rw [World.frozen?_setCell]; exact st.fz, st.below.setCell (Nat.le_refl _) _, by rw [size_set]; exact st.size⟩
theorem ParSt.dst (st : ParSt w W h x y z) (v : Int) : ParSt w (W.setCell ⟨w.heap.size, 1, none⟩ (.int .i64 v)) { h with dst := v } x y z :=
  ⟨st.hd.dst v, by rw [World.cell?_setCell_other _ _ _ _ (fun e => by injection e with e; omega)]; exact st.cx, by rw [World.cell?_setCell_other _ _ _ _ (fun e => by injection e with e; omega)]; exact st.cy, by rw [World.cell?_setCell_other _ _ _ _ (fun e => by injection e with e; omega)]; exact st.cz,
    by rw [World.frozen?_setCell]; exact st.fx, by rw [World.frozen?_setCell]; exact st.fy, by rw [World.frozen?_setCell]; exact st.fz, st.below.setCell (Nat.le_refl _) _, by rw [size_set]; exact st.size⟩
theorem ParSt.seq (st : ParSt w W h x y z) (v : Int) : ParSt w (W.setCell ⟨w.heap.size, 2, none⟩ (.int .u32 v)) { h with seq := v } x y z :=
  ⟨st.hd.seq v, by rw [World.cell?_setCell_other _ _ _ _ (fun e => by injection e with e; omega)]; exact st.cx, by rw [World.cell?_setCell_other _ _ _ _ (fun e => by injection e with e; omega)]; exact st.cy, by rw [World.cell?_setCell_other _ _ _ _ (fun e => by injection e with e; omega)]; exact st.cz,
    by rw [World.frozen?_setCell]; exact st.fx, by rw [World.frozen?_setCell]; exact st.fy, by rw [World.frozen?_setCell]; exact st.fz, st.below.setCell (Nat.le_refl _) _, by rw [size_set]; exact st.size⟩
theorem ParSt.ack (st : ParSt w W h x y z) (v : Int) : ParSt w (W.setCell ⟨w.heap.size, 3, none⟩ (.int .u32 v)) { h with ack := v } x y z :=
  ⟨st.hd.ack v, by rw [World.cell?_setCell_other _ _ _ _ (fun e => by injection e with e; omega)]; exact st.cx, by rw [World.cell?_setCell_other _ _ _ _ (fun e => by injection e with e; omega)]; exact st.cy, by rw [World.cell?_setCell_other _ _ _ _ (fun e => by injection e with e; omega)]; exact st.cz,
    by rw [World.frozen?_setCell]; exact st.fx, by rw [World.frozen?_setCell]; exact st.fy, by rw [World.frozen?_setCell]; exact st.fz, st.below.setCell (Nat.le_refl _) _, by rw [size_set]; exact st.size⟩
theorem ParSt.flags (st : ParSt w W h x y z) (v : Int) : ParSt w (W.setCell ⟨w.heap.size, 4, none⟩ (.int .i64 v)) { h with flags := v } x y z :=
  ⟨st.hd.flags v, by rw [World.cell?_setCell_other _ _ _ _ (fun e => by injection e with e; omega)]; exact st.cx, by rw [World.cell?_setCell_other _ _ _ _ (fun e => by injection e with e; omega)]; exact st.cy, by rw [World.cell?_setCell_other _ _ _ _ (fun e => by injection e with e; omega)]; exact st.cz,
    by rw [World.frozen?_setCell]; exact st.fx, by rw [World.frozen?_setCell]; exact st.fy, by rw [World.frozen?_setCell]; exact st.fz, st.below.setCell (Nat.le_refl _) _, by rw [size_set]; exact st.size⟩
theorem ParSt.win (st : ParSt w W h x y z) (v : Int) : ParSt w (W.setCell ⟨w.heap.size, 5, none⟩ (.int .i64 v)) { h with win := v } x y z :=
  ⟨st.hd.win v, by rw [World.cell?_setCell_other _ _ _ _ (fun e => by injection e with e; omega)]; exact st.cx, by rw [World.cell?_setCell_other _ _ _ _ (fun e => by injection e with e; omega)]; exact st.cy, by rw [World.cell?_setCell_other _ _ _ _ (fun e => by injection e with e; omega)]; exact st.cz,
    by rw [World.frozen?_setCell]; exact st.fx, by rw [World.frozen?_setCell]; exact st.fy, by rw [World.frozen?_setCell]; exact st.fz, st.below.setCell (Nat.le_refl _) _, by rw [size_set]; exact st.size⟩
theorem ParSt.urg (st : ParSt w W h x y z) (v : Int) : ParSt w (W.setCell ⟨w.heap.size, 6, none⟩ (.int .i64 v)) { h with urg := v } x y z :=
  ⟨st.hd.urg v, by rw [World.cell?_setCell_other _ _ _ _ (fun e => by injection e with e; omega)]; exact st.cx, by rw [World.cell?_setCell_other _ _ _ _ (fun e => by injection e with e; omega)]; exact st.cy, by rw [World.cell?_setCell_other _ _ _ _ (fun e => by injection e with e; omega)]; exact st.cz,
    by rw [World.frozen?_setCell]; exact st.fx, by rw [World.frozen?_setCell]; exact st.fy, by rw [World.frozen?_setCell]; exact st.fz, st.below.setCell (Nat.le_refl _) _, by rw [size_set]; exact st.size⟩
theorem ParSt.opts (st : ParSt w W h x y z) (v : ByteArray) : ParSt w (W.setCell ⟨w.heap.size, 7, none⟩ (.string v)) { h with opts := v } x y z :=
  ⟨st.hd.opts v, by rw [World.cell?_setCell_other _ _ _ _ (fun e => by injection e with e; omega)]; exact st.cx, by rw [World.cell?_setCell_other _ _ _ _ (fun e => by injection e with e; omega)]; exact st.cy, by rw [World.cell?_setCell_other _ _ _ _ (fun e => by injection e with e; omega)]; exact st.cz,
    by rw [World.frozen?_setCell]; exact st.fx, by rw [World.frozen?_setCell]; exact st.fy, by rw [World.frozen?_setCell]; exact st.fz, st.below.setCell (Nat.le_refl _) _, by rw [size_set]; exact st.size⟩
theorem ParSt.setx (st : ParSt w W h x y z) (v : Int) : ParSt w (W.setCell ⟨w.heap.size + 1, 0, none⟩ (.int .i64 v)) h v y z :=
  ⟨st.hd.set (by simp <;> omega) _, World.cell?_setCell_same _ _ _ st.cx, by rw [World.cell?_setCell_other _ _ _ _ (fun e => by injection e with e; omega)]; exact st.cy, by rw [World.cell?_setCell_other _ _ _ _ (fun e => by injection e with e; omega)]; exact st.cz,
    by rw [World.frozen?_setCell]; exact st.fx, by rw [World.frozen?_setCell]; exact st.fy, by rw [World.frozen?_setCell]; exact st.fz, st.below.setCell (by simp <;> omega) _, by rw [size_set]; exact st.size⟩
theorem ParSt.sety (st : ParSt w W h x y z) (v : Int) : ParSt w (W.setCell ⟨w.heap.size + 1 + 1, 0, none⟩ (.int .i64 v)) h x v z :=
  ⟨st.hd.set (by simp <;> omega) _, by rw [World.cell?_setCell_other _ _ _ _ (fun e => by injection e with e; omega)]; exact st.cx, World.cell?_setCell_same _ _ _ st.cy, by rw [World.cell?_setCell_other _ _ _ _ (fun e => by injection e with e; omega)]; exact st.cz,
    by rw [World.frozen?_setCell]; exact st.fx, by rw [World.frozen?_setCell]; exact st.fy, by rw [World.frozen?_setCell]; exact st.fz, st.below.setCell (by simp <;> omega) _, by rw [size_set]; exact st.size⟩
theorem ParSt.setz (st : ParSt w W h x y z) (v : Int) : ParSt w (W.setCell ⟨w.heap.size + 1 + 1 + 1, 0, none⟩ (.int .i64 v)) h x y v :=
  ⟨st.hd.set (by simp <;> omega) _, by rw [World.cell?_setCell_other _ _ _ _ (fun e => by injection e with e; omega)]; exact st.cx, by rw [World.cell?_setCell_other _ _ _ _ (fun e => by injection e with e; omega)]; exact st.cy, World.cell?_setCell_same _ _ _ st.cz,
    by rw [World.frozen?_setCell]; exact st.fx, by rw [World.frozen?_setCell]; exact st.fy, by rw [World.frozen?_setCell]; exact st.fz, st.below.setCell (by simp <;> omega) _, by rw [size_set]; exact st.size⟩
end
end Go.Proofs.Ytgfmpcfdggcifaa
