/- What with, withAddresses, withPorts, isPort and checkless of package patch do. -/
import Derived.Test.YtpjaajeojiaeiaaGreatDoorPpList
import Derived.Test.YtpjaajeojiaeiaaGreatDoorPkRow
namespace Go.Proofs.YtpjaajeojiaeiaaGreatDoor
open Go.ChangeShapes Go.WideShapes Go.ChangeAt Go.RowKit

/-- A text with some numbers in their places. -/
def wth (s : ByteArray) (zs : Nat → Int × Int × Int) : Nat → ByteArray
  | 0 => s
  | k + 1 => set (wth s zs k) (zs k).1 (zs k).2.1 (zs k).2.2
theorem wth_le (s : ByteArray) (zs : Nat → Int × Int × Int) : ∀ k, (wth s zs k).size ≤ s.size
  | 0 => Nat.le_refl _
  | k + 1 => Nat.le_trans (set_le _ _ _ _) (wth_le s zs k)
/-- The cells of such a list. -/
def Nums (W : World) (g n : Nat) (zs : Nat → Int × Int × Int) : Prop := ∀ k, k < n → W.cell? ⟨g, k * 3, none⟩ = some (.int .i64 (zs k).1) ∧ W.cell? ⟨g, k * 3 + 1, none⟩ = some (.int .i64 (zs k).2.1) ∧ W.cell? ⟨g, k * 3 + 2, none⟩ = some (.int .i64 (zs k).2.2)
theorem Nums.on {W W' : World} {g n : Nat} {zs : Nat → Int × Int × Int} (h : Nums W g n zs) (hb : Below W.heap.size W W') : Nums W' g n zs := fun k hk => by
  obtain ⟨a, b, c⟩ := h k hk
  exact ⟨(hb.cell (block_lt_of_cell a)).trans a, (hb.cell (block_lt_of_cell b)).trans b, (hb.cell (block_lt_of_cell c)).trans c⟩
theorem alloc_on' (W : World) (o : Obj) : Below W.heap.size W (W.alloc o) := (Below.refl _ _).alloc (Nat.le_refl _) _

set_option maxHeartbeats 1000000 in
set_option maxRecDepth 100000 in
theorem with_any (s : ByteArray) (g n : Nat) (zs : Nat → Int × Int × Int) (w : World) (hs : s.size ≤ 281474976710656) (hn : n ≤ 100) (hz : Nums w g n zs) :
    Calls Tryz.prog 50 #[.string s, .slice (some ⟨g, 0, none⟩) n n] w fun e w' => e = .returned (.string (wth s zs n)) ∧ Below w.heap.size w w' := by
  have HZ := hide hz
  clear hz
  go_enter Tryz.func50, Tryz.ntmps50
  go_wp2
  go_loopw [0, 9] (fun t i W => ∃ k : Nat, k ≤ n ∧ i = .int .i64 k ∧ t = .string (wth s zs k) ∧ Hid (Below w.heap.size w W)) (fun _ i _ => n - (intOf i).toNat)
  case atStart => exact ⟨0, Nat.zero_le _, rfl, rfl, Below.refl _ _⟩
  case round =>
    obtain ⟨k, hk, rfl, rfl, hq⟩ := hrel
    by_cases hkn : k < n
    · obtain ⟨c0, c1, c2⟩ := (unhide HZ).on (unhide hq) k hkn
      have hle := wth_le s zs k
      have HS : Hid (set (wth s zs k) (zs k).1 (zs k).2.1 (zs k).2.2 = wth s zs (k + 1)) := rfl
      have HG := hide (fun u => set_any (wth s zs k) (zs k).1 (zs k).2.1 (zs k).2.2 u (by unfold maxLen; omega))
      rw [HS.out] at HG
      generalize wth s zs k = S at *
      generalize hS' : wth s zs (k + 1) = S' at *
      have HS' := hide hS'
      clear hS'
      generalize setB S (zs k).1 (zs k).2.1 (zs k).2.2 = B at *
      generalize (zs k).1 = z0 at *
      generalize (zs k).2.1 = z1 at *
      generalize (zs k).2.2 = z2 at *
      go_wp2_with fail
      refine (unhide HG _).mono ?_
      rintro e w1 ⟨rfl, hb⟩
      have HB := hide (Below.then (Below.then (unhide hq) (alloc_on' _ _)) hb)
      clear hb hq c0 c1 c2
      go_wp2_with fail
      go_roundw
      case rel => exact ⟨k + 1, by omega, by go_num, by rw [unhide HS'], HB⟩
      case measure => simp [intOf]; omega
    · have hk2 : k = n := by omega
      subst hk2
      go_wp2_with fail
      go_ret
      exact ⟨rfl, unhide hq⟩

theorem nums1 {W : World} {g : Nat} {a b c : Int} (r : Row W g [.int .i64 a, .int .i64 b, .int .i64 c]) : Nums W g 1 (fun _ => (a, b, c)) := fun k hk => by
  have : k = 0 := by omega
  subst this
  exact ⟨r.cell 0 _ rfl, r.cell 1 _ rfl, r.cell 2 _ rfl⟩
theorem nums2 {W : World} {g : Nat} {a b c d e f : Int} (r : Row W g [.int .i64 a, .int .i64 b, .int .i64 c, .int .i64 d, .int .i64 e, .int .i64 f]) : Nums W g 2 (fun k => if k = 0 then (a, b, c) else (d, e, f)) := fun k hk => by
  have : k = 0 ∨ k = 1 := by omega
  rcases this with rfl | rfl
  · exact ⟨r.cell 0 _ rfl, r.cell 1 _ rfl, r.cell 2 _ rfl⟩
  · exact ⟨r.cell 3 _ rfl, r.cell 4 _ rfl, r.cell 5 _ rfl⟩
theorem ret_str' {a b : ByteArray} (h : a = b) : Ending.returned (.string a) = .returned (.string b) := by rw [h]

set_option maxHeartbeats 1000000 in
set_option maxRecDepth 100000 in
theorem withAddresses_any (s : ByteArray) (src dst : Int) (w : World) (hs : s.size ≤ 281474976710656) (hS : Ps.U32 src) (hD : Ps.U32 dst) :
    Calls Tryz.prog 49 #[.string s, .int .u32 src, .int .u32 dst] w fun e w' => e = .returned (.string (addrS s src dst)) ∧ Below w.heap.size w w' := by
  have k1 : IntKind.i64.wrap src = src := Oct.wraps_i64 _ hS.1 (by have := hS.2; omega)
  have k2 : IntKind.i64.wrap dst = dst := Oct.wraps_i64 _ hD.1 (by have := hD.2; omega)
  have b0 := alloc_on' w (.cells #[.int .i64 12, .int .i64 4, .int .i64 src, .int .i64 16, .int .i64 4, .int .i64 dst] 96)
  have HW := hide (with_any s w.heap.size 2 _ (w.alloc (.cells #[.int .i64 12, .int .i64 4, .int .i64 src, .int .i64 16, .int .i64 4, .int .i64 dst] 96)) hs (by decide) (nums2 (row_new w [.int .i64 12, .int .i64 4, .int .i64 src, .int .i64 16, .int .i64 4, .int .i64 dst] 96)))
  have HB := hide b0
  clear b0
  go_enter Tryz.func49, Tryz.ntmps49
  go_wp2_with fail
  refine (unhide HW).mono ?_
  rintro e w1 ⟨rfl, hb⟩
  have HB2 := hide (Below.then (unhide HB) hb)
  clear hb
  go_wp2_with fail
  go_ret
  exact ⟨rfl, unhide HB2⟩

/-- Ends. -/
structure En where
  src : Int
  dst : Int
  sport : Int
  dport : Int
abbrev En.val (t : En) : Value := .agg #[.int .u32 t.src, .int .u32 t.dst, .int .i64 t.sport, .int .i64 t.dport]
abbrev En.cells (t : En) : List Value := [.int .u32 t.src, .int .u32 t.dst, .int .i64 t.sport, .int .i64 t.dport]

set_option maxHeartbeats 1000000 in
set_option maxRecDepth 100000 in
theorem withPorts_any (s : ByteArray) (t : En) (w : World) (hs : s.size ≤ 281474976710656) :
    Calls Tryz.prog 52 #[.string s, t.val] w fun e w' => e = .returned (.string (portS s t.sport t.dport)) ∧ Below w.heap.size w w' := by
  have r0 := row_new w t.cells 27
  have b0 := alloc_on' w (.cells t.cells.toArray 27)
  have b1 := Below.then b0 (alloc_on' _ (.cells #[.int .i64 0, .int .i64 2, .int .i64 t.sport, .int .i64 2, .int .i64 2, .int .i64 t.dport] 96))
  have hz : (w.alloc (.cells t.cells.toArray 27)).heap.size = w.heap.size + 1 := by simp
  have r1 := row_new (w.alloc (.cells t.cells.toArray 27)) [.int .i64 0, .int .i64 2, .int .i64 t.sport, .int .i64 2, .int .i64 2, .int .i64 t.dport] 96
  rw [hz] at r1
  have HW := hide (with_any s (w.heap.size + 1) 2 _ _ hs (by decide) (nums2 r1))
  have HB := hide b1
  clear b0 b1 r0 r1 hz
  go_enter Tryz.func52, Tryz.ntmps52
  go_wp2_with fail
  refine (unhide HW).mono ?_
  rintro e w1 ⟨rfl, hb⟩
  have HB2 := hide (Below.then (unhide HB) hb)
  clear hb
  go_wp2_with fail
  go_ret
  exact ⟨rfl, unhide HB2⟩

/-- Is it a port? -/
def prtB (n : Int) : Bool := laidB 2 n
theorem prtB_iff (n : Int) : prtB n = true ↔ 0 ≤ n ∧ n ≤ 65535 := by
  unfold prtB
  rw [laidB_iff]
  unfold Room
  constructor
  · rintro ⟨-, h1, h2⟩
    have : n.toNat < 65536 := h2
    omega
  · intro h
    exact ⟨by decide, h.1, by show _ < 65536; omega⟩
set_option maxHeartbeats 1000000 in
theorem isPort_any (n : Int) (w : World) :
    Calls Tryz.prog 48 #[.int .i64 n] w fun e w' => e = .returned (.bool (prtB n)) ∧ Below w.heap.size w w' := by
  have HP := hide (put_any 2 n)
  have HE : Hid (laidB 2 n = prtB n) := rfl
  rw [HE.out] at HP
  generalize laid 2 n = X at *
  generalize prtB n = B at *
  go_enter Tryz.func48, Tryz.ntmps48
  go_wp2_with fail
  refine (unhide HP _).mono ?_
  rintro e w1 ⟨rfl, hb⟩
  have HB := hide hb
  clear hb
  go_wp2_with fail
  go_ret
  exact ⟨rfl, unhide HB⟩

set_option maxHeartbeats 1000000 in
theorem checkless_any (s : ByteArray) (w : World) (hs : s.size ≤ 281474976710656) :
    Calls Tryz.prog 53 #[.string s] w fun e w' => e = .returned (.bool (got s 6 2 == 0)) ∧ Below w.heap.size w w' := by
  have HP := hide (Ps.place_any 17 w (by decide))
  have e1 : Ps.plc 17 = 6 := rfl
  have e2 : Ps.plcB 17 = true := rfl
  rw [e1, e2] at HP
  have HG := hide (fun u => get_any s 6 2 u (by unfold maxLen; omega))
  generalize got s 6 2 = G at *
  generalize gotB s 6 2 = GB at *
  clear e1 e2
  go_enter Tryz.func53, Tryz.ntmps53
  go_wp2_with fail
  refine (unhide HP).mono ?_
  rintro e w1 ⟨rfl, hb⟩
  have HB := hide hb
  clear hb
  go_wp2_with fail
  refine (unhide HG _).mono ?_
  rintro e w2 ⟨rfl, rfl⟩
  go_wp2_with fail
  go_ret
  exact ⟨rfl, unhide HB⟩
end Go.Proofs.YtpjaajeojiaeiaaGreatDoor
