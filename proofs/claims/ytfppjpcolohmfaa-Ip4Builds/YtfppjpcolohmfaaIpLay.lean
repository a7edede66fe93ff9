/- The packet as the reference lays it, number by number, is the packet as text lays it, word by word. Nothing of the program's walk is in here. -/
import Derived.Test.YtfppjpcolohmfaaIpMath
namespace Go.Proofs.Ytfppjpcolohmfaa
open Go.RowKit

theorem num_app (A : List UInt8) : ∀ (n : Nat) (B : List UInt8), B.length = n → Oct.num (A ++ B) = Oct.num A * 256 ^ n + Oct.num B
  | 0, B, h => by rw [List.eq_nil_of_length_eq_zero h]; simp [Oct.num]
  | n + 1, B, h => by
    obtain ⟨B', b, rfl⟩ := Oct.snoc_of B (by omega)
    have hl : B'.length = n := by simp at h; exact h
    rw [← List.append_assoc, Oct.num_snoc, Oct.num_snoc, num_app A n B' hl, Nat.pow_succ, Nat.add_mul, Nat.mul_assoc, Nat.add_assoc]
theorem be_of {k n : Nat} {L : List UInt8} (hl : L.length = k) (hn : Oct.num L = n) : Oct.be k n = L := by rw [← hn]; exact Oct.be_num k L hl
theorem be_112 (a b c : Nat) (ha : a < 256) (hb : b < 256) (hc : c < 65536) : Oct.be 4 ((a * 256 + b) * 65536 + c) = Oct.be 1 a ++ (Oct.be 1 b ++ Oct.be 2 c) := by
  refine be_of (by simp [Oct.be_length]) ?_
  rw [num_app _ 3 _ (by simp [Oct.be_length]), num_app _ 2 _ (by simp [Oct.be_length]), Oct.num_be 1 a (by omega), Oct.num_be 1 b (by omega), Oct.num_be 2 c (by omega)]
  omega
theorem be_22 (a c : Nat) (ha : a < 65536) (hc : c < 65536) : Oct.be 4 (a * 65536 + c) = Oct.be 2 a ++ Oct.be 2 c := by
  refine be_of (by simp [Oct.be_length]) ?_
  rw [num_app _ 2 _ (by simp [Oct.be_length]), Oct.num_be 2 a (by omega), Oct.num_be 2 c (by omega)]
theorem laid_list {size n : Int} (h1 : 1 ≤ size) (h2 : size ≤ 4) (h3 : 0 ≤ n) (h4 : n.toNat < 256 ^ size.toNat) : (laid size n).data.toList = Oct.be size.toNat n.toNat := by
  rw [laid, if_pos ((laidB_iff size n).2 ⟨⟨h1, h2⟩, h3, h4⟩)]

/-- What stands ahead of the check, and behind it. -/
def layA (h : Hd) (T : Int) : ByteArray := laid 1 (64 + (20 + (h.opts.size : Int)) / 4) ++ laid 1 h.tos ++ laid 2 T ++ laid 2 h.id ++ laid 2 (h.flags * 8192 + h.frag) ++ laid 1 h.ttl ++ laid 1 h.proto
def layB (h : Hd) : ByteArray := laid 4 h.src ++ laid 4 h.dst ++ h.opts
theorem lay_text {h : Hd} (hr : RightP h) (hw : h.Wf) {T c : Int} (t0 : 0 ≤ T) (t1 : T ≤ 65535) (c0 : 0 ≤ c) (c1 : c ≤ 65535) : ftext (hfix h T c) ++ h.opts = layA h T ++ laid 2 c ++ layB h := by
  obtain ⟨s0, s1⟩ := hw.src
  obtain ⟨d0, d1⟩ := hw.dst
  obtain ⟨⟨r1, r2⟩, ⟨r3, r4⟩, ⟨r5, r6⟩, ⟨r7, r8⟩, ⟨r9, r10⟩, ⟨r11, r12⟩, o40, o4, _⟩ := hr
  have e0 : (fw0 (hfix h T c)).toNat = ((64 + (20 + (h.opts.size : Int)) / 4).toNat * 256 + h.tos.toNat) * 65536 + T.toNat := by
    show (((4 * 16 + (20 + (h.opts.size : Int)) / 4) * 256 + h.tos) * 65536 + T).toNat = _; omega
  have e1 : (fw1 (hfix h T c)).toNat = h.id.toNat * 65536 + (h.flags * 8192 + h.frag).toNat := by
    show ((h.id * 8 + h.flags) * 8192 + h.frag).toNat = _; omega
  have e2 : (fw2 (hfix h T c)).toNat = (h.ttl.toNat * 256 + h.proto.toNat) * 65536 + c.toNat := by
    show ((h.ttl * 256 + h.proto) * 65536 + c).toNat = _; omega
  have e3 : hfix h T c 10 = h.src := rfl
  have e4 : hfix h T c 11 = h.dst := rfl
  apply Oct.ba_ext
  rw [app_list, ftext_list, e0, e1, e2, e3, e4, be_112 _ _ _ (by omega) (by omega) (by omega), be_22 _ _ (by omega) (by omega), be_112 _ _ _ (by omega) (by omega) (by omega)]
  unfold layA layB
  simp only [app_list]
  rw [laid_list (size := 1) (by omega) (by omega) (by omega) (show _ < 256 by omega), laid_list (size := 1) (n := h.tos) (by omega) (by omega) (by omega) (show _ < 256 by omega), laid_list (size := 2) (n := T) (by omega) (by omega) (by omega) (show _ < 65536 by omega),
    laid_list (size := 2) (n := h.id) (by omega) (by omega) (by omega) (show _ < 65536 by omega), laid_list (size := 2) (n := h.flags * 8192 + h.frag) (by omega) (by omega) (by omega) (show _ < 65536 by omega), laid_list (size := 1) (n := h.ttl) (by omega) (by omega) (by omega) (show _ < 256 by omega),
    laid_list (size := 1) (n := h.proto) (by omega) (by omega) (by omega) (show _ < 256 by omega), laid_list (size := 2) (n := c) (by omega) (by omega) (by omega) (show _ < 65536 by omega), laid_list (size := 4) (n := h.src) (by omega) (by omega) (by omega) (show _ < 4294967296 by omega), laid_list (size := 4) (n := h.dst) (by omega) (by omega) (by omega) (show _ < 4294967296 by omega)]
  simp only [List.append_assoc]
  rfl
theorem laid_zero : laid 2 0 = ⟨#[0, 0]⟩ := by
  apply Oct.ba_ext
  rw [laid_list (by omega) (by omega) (by omega) (by decide)]
  decide
theorem layA_size (h : Hd) (T : Int) : (layA h T).size ≤ 100 := by
  have hl : ∀ s n, (laid s n).size ≤ 4 := fun s n => by
    unfold laid
    split
    · rename_i hb
      obtain ⟨⟨h1, h2⟩, _⟩ := (laidB_iff s n).1 hb
      rw [Oct.mk_size, Oct.be_length]; omega
    · exact Nat.zero_le _
  unfold layA
  simp only [ByteArray.size_append]
  have a1 := hl 1 (64 + (20 + (h.opts.size : Int)) / 4); have a2 := hl 1 h.tos; have a3 := hl 2 T; have a4 := hl 2 h.id; have a5 := hl 2 (h.flags * 8192 + h.frag); have a6 := hl 1 h.ttl; have a7 := hl 1 h.proto
  omega
theorem laid_size (s n : Int) : (laid s n).size ≤ 4 := by
  unfold laid
  split
  · rename_i hb
    obtain ⟨⟨h1, h2⟩, _⟩ := (laidB_iff s n).1 hb
    rw [Oct.mk_size, Oct.be_length]; omega
  · exact Nat.zero_le _
end Go.Proofs.Ytfppjpcolohmfaa
