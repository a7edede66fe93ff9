/- The law of All. -/
import Derived.Test.YtckkdgifjgkoaaaPqCn
namespace Go.Proofs.Ytckkdgifjgkoaaa
open Go.ChangeShapes Go.WideShapes Go.ChangeAt Go.RowKit Go.Maps Go.Shelf An Sp
attribute [local go_sem] Oper.semAt_some
set_option maxRecDepth 100000 in
set_option maxHeartbeats 16000000 in
theorem allof_any (a : Option Addr) (len cap : Nat) (zs : List Int) (port : Int) (h1 : -9223372036854775808 ≤ port) (h2 : port ≤ 9223372036854775807) (w : World) (hs : Sl .u8 w a len zs 256) :
    Calls Try.prog 6 #[.slice a len cap, .int .i64 port] w fun e w' => e = .returned (.bool true) ∧ Below w.heap.size w w' := by
  have hNew := hide (fun (W : World) (h : Below w.heap.size w W) => run_new w W h 30 (by decide) (by decide) key0 key0_size)
  have HL : Shut (Sl .u8 w a len zs 256) := ⟨hs⟩
  have HP : Shut (-9223372036854775808 ≤ port ∧ port ≤ 9223372036854775807) := ⟨h1, h2⟩
  clear hs h1 h2
  have hmm := @run_makeMap Try.prog
  refine (callsIn_wide (n := 0)).1 ?_
  refine callsIn_of_wp_marks Try.func6 rfl trivial ?_ rfl
  simp only [Try.ntmps6, List.size_toArray, List.length_cons, List.length_nil, Nat.reduceAdd, Nat.reduceSub, Array.replicate_succ, Array.replicate_zero, List.push_toArray, List.append_toArray, List.nil_append, List.cons_append]
  refine wpIn_wide.2 ?_
  go_wp2_with fail
  refine (examples_any _).mono ?_
  rintro e w1 ⟨rfl, hb1⟩
  have HY : Shut (Row w1 w.heap.size [.bool false]) := ⟨(row_new w [.bool false] 4).on' hb1⟩
  have HW : Shut (Below w.heap.size w w1) := ⟨Below.then (alloc_on w (.cells #[.bool false] 4)) hb1⟩
  have hs1 : w.heap.size < w1.heap.size := by have := hb1.size; simp at this; omega
  have HS1 : Shut _ := ⟨hs1⟩
  clear hb1 hs1
  have h : Hid (Calls Try.prog 9 #[.int .i64 30, .string key0] w1 fun e w' => ∃ (b : QBk) (v : Value), e = .returned (.tuple #[.pointer (some ⟨b.p, 0, none⟩), .int .i64 0]) ∧ Run w w1.heap.size key0 30 w' b v (pl0 30) ∧ Below w1.heap.size w1 w') := hide (unhide hNew w1 HW.out)
  clear hNew
  go_wp2_with fail
  refine (unhide h).mono ?_
  rintro e w2 ⟨b, v, rfl, R2, hb2⟩
  have HR2 : Shut _ := ⟨R2⟩
  have HB2 : Shut _ := ⟨hb2⟩
  clear h hb2 R2
  go_wp2_with fail
  have HT0 : Shut _ := ⟨st_start HY.out HS1.out HR2.out HB2.out⟩
  obtain ⟨M, hM⟩ : ∃ M, w2.heap.size = M := ⟨_, rfl⟩
  obtain ⟨C, hC⟩ : ∃ C, M + 1 = C := ⟨_, rfl⟩
  simp only [hM, hC] at HT0
  simp only [hM, hC]
  clear hM hC HY HS1 HR2 HB2
  go_loopw [9] (fun t W => ∃ (i : Nat) (u : Value) (p : Pl), t = .int .i64 (i : Int) ∧ i ≤ 12 ∧ Shut (Lst' w w1.heap.size W b u p M C i)) (fun t _ => 12 - (intOf t).toNat)
  case atStart => exact ⟨0, v, pl0 30, rfl, by omega, HT0⟩
  case round =>
    obtain ⟨i, u, p, rfl, hi, HT⟩ := hrel
    clear HT0
    by_cases hlt : i < len ∧ i < 12
    · obtain ⟨hlt1, hlt2⟩ := hlt
      have hi1 : (i : Int) < len := by omega
      have hi2 : (i : Int) < 12 := by omega
      have hi3 : decide ((i : Int) < len) = true := by simpa using hlt1
      obtain ⟨f, hf, hSt, hLw⟩ := HT.out
      obtain ⟨x, rfl, hc, hz0, hz1⟩ := HL.out.on hSt.run.below i hlt1
      obtain ⟨q, hq⟩ : ∃ q : Nat, zs.getD i 0 = (q : Int) := Int.eq_ofNat_of_zero_le hz0
      rw [hq] at hc hz1
      obtain ⟨d, hd⟩ : ∃ d : Nat, 1 + q % 20 = d := ⟨_, rfl⟩
      have hdi : (1 : Int) + (q : Int) % 20 = (d : Int) := by omega
      have hd1 : 1 ≤ (d : Int) ∧ (d : Int) ≤ 20 := by omega
      have hd2 : (d : Int) ≤ 20 := hd1.2
      have HD : Shut _ := ⟨hd1⟩
      have hq1 : (q : Int) ≤ 255 := by omega
      have hk3 : (q : Int) / 20 % 3 = 0 ∨ (q : Int) / 20 % 3 = 1 ∨ (q : Int) / 20 % 3 = 2 := by omega
      have hs3 : Po.stOf p (d : Int) = 0 ∨ Po.stOf p (d : Int) = 1 ∨ Po.stOf p (d : Int) = 2 := by have := Po.stOf_le hLw.inv (d : Int); omega
      have HSt : Shut _ := ⟨hSt⟩
      have HLw : Shut _ := ⟨hLw⟩
      have HF : Shut _ := ⟨hf⟩
      clear hf hSt hLw hz0 hz1 hq hd hd1 HT hi
      rcases hk3 with hk | hk | hk
      · rcases hs3 with hs | hs | hs
        · have hy := HLw.out.put_yes (by omega) HD.out hs
          have hc5 := HSt.out.put (d : Int)
          rw [hy.1] at hc5
          have hC5 : Hid (Calls Try.prog 15 #[.pointer (some ⟨b.p, 0, none⟩), .agg #[.int .i64 (d : Int), .int .u32 7, .int .i64 0]] wr fun e w' => e = .returned (.int .i64 0) ∧ ∃ v', St w w1.heap.size w' b v' (Po.putP 30 p (d : Int) 7 0) M C i f) := hide hc5
          have HY1 : Shut _ := ⟨hy.2⟩
          have HFd : Shut (f (d : Int) = 0) := ⟨(HF.out _).trans hs⟩
          clear hc5 hy hs HLw HSt
          go_wp2_with fail
          refine (unhide hC5).mono ?_
          rintro e w5 ⟨rfl, v5, h5⟩
          have cC := h5.cell.cell 0 _ rfl
          have hl : (Instr.lookup 61 (.map (some M)) (.int .i64 (d : Int)) false).run Try.prog w5 = .ok (.int .i64 0) w5 := by
            have := h5.map.look (id := (d : Int)) (by have := HD.out; omega)
            rw [HFd.out] at this
            exact this
          obtain ⟨w6, r6, h6⟩ := h5.set (by omega) (d : Int) (by have := HD.out; omega) 1 (by decide)
          have r6 : (Instr.mapUpdate 61 (.map (some M)) (.int .i64 (d : Int)) (.int .i64 1)).run Try.prog w5 = .ok () w6 := r6
          have HT6 : Shut (Lst' w w1.heap.size w6 b v5 (Po.putP 30 p (d : Int) 7 0) M C (i + 1)) := ⟨⟨_, fun j => by
            have e1 := HY1.out.2 j
            have e2 := HF.out j
            show (if j = (d : Int) then 1 else f j) = _
            rw [e1, e2], h6, HY1.out.1⟩⟩
          clear h5 h6 hC5 HFd HY1 HF
          go_wp2_with fail
          go_roundw
          case rel => exact ⟨i + 1, v5, _, by go_num, by omega, HT6⟩
          case measure => simp [intOf]; omega
        · have hy := HLw.out.put_no (id := (d : Int)) HD.out (by rw [hs]; decide)
          have hc5 := HSt.out.put (d : Int)
          rw [hy.1, hy.2] at hc5
          have hC5 : Hid (Calls Try.prog 15 #[.pointer (some ⟨b.p, 0, none⟩), .agg #[.int .i64 (d : Int), .int .u32 7, .int .i64 0]] wr fun e w' => e = .returned (.int .i64 20) ∧ ∃ v', St w w1.heap.size w' b v' p M C i f) := hide hc5
          have HY1 : Shut _ := ⟨HLw.out.more⟩
          have HFd : Shut (f (d : Int) = 1) := ⟨(HF.out _).trans hs⟩
          have HS0 : Shut _ := ⟨hs⟩
          clear hc5 hy hs HLw HSt
          go_wp2_with fail
          refine (unhide hC5).mono ?_
          rintro e w5 ⟨rfl, v5, h5⟩
          have cC := h5.cell.cell 0 _ rfl
          have hl : (Instr.lookup 61 (.map (some M)) (.int .i64 (d : Int)) false).run Try.prog w5 = .ok (.int .i64 1) w5 := by
            have := h5.map.look (id := (d : Int)) (by have := HD.out; omega)
            rw [HFd.out] at this
            exact this
          have HT6 : Shut (Lst' w w1.heap.size w5 b v5 p M C (i + 1)) := ⟨⟨f, HF.out, h5.more (Nat.le_succ _), HY1.out⟩⟩
          clear h5 hC5 HFd HY1 HF
          go_wp2_with fail
          go_roundw
          case rel => exact ⟨i + 1, v5, _, by go_num, by omega, HT6⟩
          case measure => simp [intOf]; omega
        · have hy := HLw.out.put_no (id := (d : Int)) HD.out (by rw [hs]; decide)
          have hc5 := HSt.out.put (d : Int)
          rw [hy.1, hy.2] at hc5
          have hC5 : Hid (Calls Try.prog 15 #[.pointer (some ⟨b.p, 0, none⟩), .agg #[.int .i64 (d : Int), .int .u32 7, .int .i64 0]] wr fun e w' => e = .returned (.int .i64 20) ∧ ∃ v', St w w1.heap.size w' b v' p M C i f) := hide hc5
          have HY1 : Shut _ := ⟨HLw.out.more⟩
          have HFd : Shut (f (d : Int) = 2) := ⟨(HF.out _).trans hs⟩
          have HS0 : Shut _ := ⟨hs⟩
          clear hc5 hy hs HLw HSt
          go_wp2_with fail
          refine (unhide hC5).mono ?_
          rintro e w5 ⟨rfl, v5, h5⟩
          have cC := h5.cell.cell 0 _ rfl
          have hl : (Instr.lookup 61 (.map (some M)) (.int .i64 (d : Int)) false).run Try.prog w5 = .ok (.int .i64 2) w5 := by
            have := h5.map.look (id := (d : Int)) (by have := HD.out; omega)
            rw [HFd.out] at this
            exact this
          have HT6 : Shut (Lst' w w1.heap.size w5 b v5 p M C (i + 1)) := ⟨⟨f, HF.out, h5.more (Nat.le_succ _), HY1.out⟩⟩
          clear h5 hC5 HFd HY1 HF
          go_wp2_with fail
          go_roundw
          case rel => exact ⟨i + 1, v5, _, by go_num, by omega, HT6⟩
          case measure => simp [intOf]; omega
      · rcases hs3 with hs | hs | hs
        · have hy := HLw.out.drain_no (id := (d : Int)) (by rw [hs]; decide)
          have hc5 := HSt.out.drain (d : Int) (by omega)
          rw [hy.1, hy.2, hs] at hc5
          have hC5 : Hid (Calls Try.prog 18 #[.pointer (some ⟨b.p, 0, none⟩), .int .i64 (d : Int)] wr fun e w' => e = .returned (.int .i64 19) ∧ ∃ v', St w w1.heap.size w' b v' p M C i f) := hide hc5
          have HY1 : Shut _ := ⟨HLw.out.more⟩
          have HFd : Shut (f (d : Int) = 0) := ⟨(HF.out _).trans hs⟩
          have HS0 : Shut _ := ⟨hs⟩
          clear hc5 hy hs HLw HSt
          go_wp2_with fail
          refine (unhide hC5).mono ?_
          rintro e w5 ⟨rfl, v5, h5⟩
          have cC := h5.cell.cell 0 _ rfl
          have hl : (Instr.lookup 61 (.map (some M)) (.int .i64 (d : Int)) false).run Try.prog w5 = .ok (.int .i64 0) w5 := by
            have := h5.map.look (id := (d : Int)) (by have := HD.out; omega)
            rw [HFd.out] at this
            exact this
          have HT6 : Shut (Lst' w w1.heap.size w5 b v5 p M C (i + 1)) := ⟨⟨f, HF.out, h5.more (Nat.le_succ _), HY1.out⟩⟩
          clear h5 hC5 HFd HY1 HF
          go_wp2_with fail
          go_roundw
          case rel => exact ⟨i + 1, v5, _, by go_num, by omega, HT6⟩
          case measure => simp [intOf]; omega
        · have hy := HLw.out.drain_yes HD.out hs
          have hc5 := HSt.out.drain (d : Int) (by omega)
          rw [hy.1] at hc5
          have hC5 : Hid (Calls Try.prog 18 #[.pointer (some ⟨b.p, 0, none⟩), .int .i64 (d : Int)] wr fun e w' => e = .returned (.int .i64 0) ∧ ∃ v', St w w1.heap.size w' b v' (Po.drainP p (d : Int)) M C i f) := hide hc5
          have HY1 : Shut _ := ⟨hy.2⟩
          have HFd : Shut (f (d : Int) = 1) := ⟨(HF.out _).trans hs⟩
          clear hc5 hy hs HLw HSt
          go_wp2_with fail
          refine (unhide hC5).mono ?_
          rintro e w5 ⟨rfl, v5, h5⟩
          have cC := h5.cell.cell 0 _ rfl
          have hl : (Instr.lookup 61 (.map (some M)) (.int .i64 (d : Int)) false).run Try.prog w5 = .ok (.int .i64 1) w5 := by
            have := h5.map.look (id := (d : Int)) (by have := HD.out; omega)
            rw [HFd.out] at this
            exact this
          obtain ⟨w6, r6, h6⟩ := h5.set (by omega) (d : Int) (by have := HD.out; omega) 2 (by decide)
          have r6 : (Instr.mapUpdate 61 (.map (some M)) (.int .i64 (d : Int)) (.int .i64 2)).run Try.prog w5 = .ok () w6 := r6
          have HT6 : Shut (Lst' w w1.heap.size w6 b v5 (Po.drainP p (d : Int)) M C (i + 1)) := ⟨⟨_, fun j => by
            have e1 := HY1.out.2 j
            have e2 := HF.out j
            show (if j = (d : Int) then 2 else f j) = _
            rw [e1, e2], h6, HY1.out.1⟩⟩
          clear h5 h6 hC5 HFd HY1 HF
          go_wp2_with fail
          go_roundw
          case rel => exact ⟨i + 1, v5, _, by go_num, by omega, HT6⟩
          case measure => simp [intOf]; omega
        · have hy := HLw.out.drain_no (id := (d : Int)) (by rw [hs]; decide)
          have hc5 := HSt.out.drain (d : Int) (by omega)
          rw [hy.1, hy.2, hs] at hc5
          have hC5 : Hid (Calls Try.prog 18 #[.pointer (some ⟨b.p, 0, none⟩), .int .i64 (d : Int)] wr fun e w' => e = .returned (.int .i64 15) ∧ ∃ v', St w w1.heap.size w' b v' p M C i f) := hide hc5
          have HY1 : Shut _ := ⟨HLw.out.more⟩
          have HFd : Shut (f (d : Int) = 2) := ⟨(HF.out _).trans hs⟩
          have HS0 : Shut _ := ⟨hs⟩
          clear hc5 hy hs HLw HSt
          go_wp2_with fail
          refine (unhide hC5).mono ?_
          rintro e w5 ⟨rfl, v5, h5⟩
          have cC := h5.cell.cell 0 _ rfl
          have hl : (Instr.lookup 61 (.map (some M)) (.int .i64 (d : Int)) false).run Try.prog w5 = .ok (.int .i64 2) w5 := by
            have := h5.map.look (id := (d : Int)) (by have := HD.out; omega)
            rw [HFd.out] at this
            exact this
          have HT6 : Shut (Lst' w w1.heap.size w5 b v5 p M C (i + 1)) := ⟨⟨f, HF.out, h5.more (Nat.le_succ _), HY1.out⟩⟩
          clear h5 hC5 HFd HY1 HF
          go_wp2_with fail
          go_roundw
          case rel => exact ⟨i + 1, v5, _, by go_num, by omega, HT6⟩
          case measure => simp [intOf]; omega
      · rcases hs3 with hs | hs | hs
        · have hy := HLw.out.gone_no (id := (d : Int)) hs
          have hc5 := HSt.out.gone (d : Int) (by omega)
          rw [hy.1, hy.2] at hc5
          have hC5 : Hid (Calls Try.prog 19 #[.pointer (some ⟨b.p, 0, none⟩), .int .i64 (d : Int)] wr fun e w' => e = .returned (.int .i64 19) ∧ ∃ v', St w w1.heap.size w' b v' p M C i f) := hide hc5
          have HY1 : Shut _ := ⟨HLw.out.more⟩
          have HFd : Shut (f (d : Int) = 0) := ⟨(HF.out _).trans hs⟩
          have HS0 : Shut _ := ⟨hs⟩
          clear hc5 hy hs HLw HSt
          go_wp2_with fail
          refine (unhide hC5).mono ?_
          rintro e w5 ⟨rfl, v5, h5⟩
          have cC := h5.cell.cell 0 _ rfl
          have hl : (Instr.lookup 61 (.map (some M)) (.int .i64 (d : Int)) false).run Try.prog w5 = .ok (.int .i64 0) w5 := by
            have := h5.map.look (id := (d : Int)) (by have := HD.out; omega)
            rw [HFd.out] at this
            exact this
          obtain ⟨w6, r6, h6⟩ := h5.set (by omega) (d : Int) (by have := HD.out; omega) 0 (by decide)
          have r6 : (Instr.mapUpdate 61 (.map (some M)) (.int .i64 (d : Int)) (.int .i64 0)).run Try.prog w5 = .ok () w6 := r6
          have HT6 : Shut (Lst' w w1.heap.size w6 b v5 p M C (i + 1)) := ⟨⟨_, fun j => by
            have e2 := HF.out j
            show (if j = (d : Int) then 0 else f j) = _
            by_cases e : j = (d : Int)
            · rw [if_pos e, e, HS0.out]
            · rw [if_neg e, e2], h6, HY1.out⟩⟩
          clear h5 h6 hC5 HFd HY1 HF
          go_wp2_with fail
          go_roundw
          case rel => exact ⟨i + 1, v5, _, by go_num, by omega, HT6⟩
          case measure => simp [intOf]; omega
        · have hy := HLw.out.gone_yes (by rw [hs]; decide)
          have hc5 := HSt.out.gone (d : Int) (by omega)
          rw [hy.1] at hc5
          have hC5 : Hid (Calls Try.prog 19 #[.pointer (some ⟨b.p, 0, none⟩), .int .i64 (d : Int)] wr fun e w' => e = .returned (.int .i64 0) ∧ ∃ v', St w w1.heap.size w' b v' (Po.goneP p (d : Int)) M C i f) := hide hc5
          have HY1 : Shut _ := ⟨hy.2⟩
          have HFd : Shut (f (d : Int) = 1) := ⟨(HF.out _).trans hs⟩
          clear hc5 hy hs HLw HSt
          go_wp2_with fail
          refine (unhide hC5).mono ?_
          rintro e w5 ⟨rfl, v5, h5⟩
          have cC := h5.cell.cell 0 _ rfl
          have hl : (Instr.lookup 61 (.map (some M)) (.int .i64 (d : Int)) false).run Try.prog w5 = .ok (.int .i64 1) w5 := by
            have := h5.map.look (id := (d : Int)) (by have := HD.out; omega)
            rw [HFd.out] at this
            exact this
          obtain ⟨w6, r6, h6⟩ := h5.set (by omega) (d : Int) (by have := HD.out; omega) 0 (by decide)
          have r6 : (Instr.mapUpdate 61 (.map (some M)) (.int .i64 (d : Int)) (.int .i64 0)).run Try.prog w5 = .ok () w6 := r6
          have HT6 : Shut (Lst' w w1.heap.size w6 b v5 (Po.goneP p (d : Int)) M C (i + 1)) := ⟨⟨_, fun j => by
            have e1 := HY1.out.2 j
            have e2 := HF.out j
            show (if j = (d : Int) then 0 else f j) = _
            rw [e1, e2], h6, HY1.out.1⟩⟩
          clear h5 h6 hC5 HFd HY1 HF
          go_wp2_with fail
          go_roundw
          case rel => exact ⟨i + 1, v5, _, by go_num, by omega, HT6⟩
          case measure => simp [intOf]; omega
        · have hy := HLw.out.gone_yes (by rw [hs]; decide)
          have hc5 := HSt.out.gone (d : Int) (by omega)
          rw [hy.1] at hc5
          have hC5 : Hid (Calls Try.prog 19 #[.pointer (some ⟨b.p, 0, none⟩), .int .i64 (d : Int)] wr fun e w' => e = .returned (.int .i64 0) ∧ ∃ v', St w w1.heap.size w' b v' (Po.goneP p (d : Int)) M C i f) := hide hc5
          have HY1 : Shut _ := ⟨hy.2⟩
          have HFd : Shut (f (d : Int) = 2) := ⟨(HF.out _).trans hs⟩
          clear hc5 hy hs HLw HSt
          go_wp2_with fail
          refine (unhide hC5).mono ?_
          rintro e w5 ⟨rfl, v5, h5⟩
          have cC := h5.cell.cell 0 _ rfl
          have hl : (Instr.lookup 61 (.map (some M)) (.int .i64 (d : Int)) false).run Try.prog w5 = .ok (.int .i64 2) w5 := by
            have := h5.map.look (id := (d : Int)) (by have := HD.out; omega)
            rw [HFd.out] at this
            exact this
          obtain ⟨w6, r6, h6⟩ := h5.set (by omega) (d : Int) (by have := HD.out; omega) 0 (by decide)
          have r6 : (Instr.mapUpdate 61 (.map (some M)) (.int .i64 (d : Int)) (.int .i64 0)).run Try.prog w5 = .ok () w6 := r6
          have HT6 : Shut (Lst' w w1.heap.size w6 b v5 (Po.goneP p (d : Int)) M C (i + 1)) := ⟨⟨_, fun j => by
            have e1 := HY1.out.2 j
            have e2 := HF.out j
            show (if j = (d : Int) then 0 else f j) = _
            rw [e1, e2], h6, HY1.out.1⟩⟩
          clear h5 h6 hC5 HFd HY1 HF
          go_wp2_with fail
          go_roundw
          case rel => exact ⟨i + 1, v5, _, by go_num, by omega, HT6⟩
          case measure => simp [intOf]; omega
    · rcases Nat.lt_or_ge i len with hlt1 | hlt1
      · have hi1 : (i : Int) < len := by omega
        have hi2 : ¬ (i : Int) < 12 := by omega
        have hi3 : decide ((i : Int) < len) = true := by simpa using hlt1
        clear hlt
        obtain ⟨f, hCn⟩ := cn_start HT.out
        have HC0 : Shut _ := ⟨hCn⟩
        have HX0 : Shut (w.heap.size < wr.heap.size) := ⟨hCn.lY⟩
        clear hCn HT
        go_wp2_with fail
        refine (qall_any _ _).mono ?_
        rintro e zz ⟨rfl, rfl⟩
        obtain ⟨V0, hV0⟩ : ∃ V0, (((wr.alloc (.cells #[.int .i64 0] 3)).alloc (.cells #[.int .i64 0] 3)).alloc (.cells #[.int .i64 0] 3)).alloc (.cells #[.pointer (some ⟨b.p, 0, none⟩)] 24) = V0 := ⟨_, rfl⟩
        have hsz : V0.heap.size = wr.heap.size + 4 := by rw [← hV0]; simp
        have hZc : V0.cell? ⟨wr.heap.size + 3, 0, none⟩ = some (.pointer (some ⟨b.p, 0, none⟩)) := by rw [← hV0]; simp [go_sem]
        have h3 := HC0.out.keep (W' := V0) (by
          have e := alloc_on (((wr.alloc (.cells #[.int .i64 0] 3)).alloc (.cells #[.int .i64 0] 3)).alloc (.cells #[.int .i64 0] 3)) (.cells #[.pointer (some ⟨b.p, 0, none⟩)] 24)
          rw [hV0] at e
          simpa using e)
        obtain ⟨X, hX⟩ : ∃ X, wr.heap.size = X := ⟨_, rfl⟩
        rw [hX] at hsz hZc h3
        have HX : Shut (w.heap.size < X) := ⟨hX ▸ HX0.out⟩
        clear HC0 HX0
        have hbp : b.p < X := h3.lts _ (by simp [qfeet])
        have hbm : b.m < X := h3.lts _ (by simp [qfeet])
        have H3 : Shut _ := ⟨h3⟩
        go_wp2_with fail
        simp only [Nat.add_assoc, Nat.reduceAdd]
        refine wp_all1 17 18 (b := b) (L := p.L) (B := X + 3) rfl h3.lw.inv.ids h3.lw.inv.idr h3.lw.inv.len hZc h3.st.run.at_.lk (fun k => k ≠ X ∧ k ≠ X + 1 ∧ k ≠ X + 2) (fun k hk => by omega) (by omega) (by omega) (by omega)
          (fun k W => Cn w w1.heap.size W b u p M C i f X (Po.lastId p.L k : Nat) (k : Nat) (Po.actTo p.L k : Nat)) (fun _ _ _ => False)
          (fun k W W' h hb => h.keep (hb.mono (by omega))) (fun _ _ _ _ h _ => h)
          h3 ?assign ?body ?done (fun _ _ _ h _ => h.elim)
        case assign =>
          intro l k W K hK
          simp only [varAct, allAct] at hK ⊢
          gi_wp2
          simpa using hK
        case body =>
          rintro l k xx W hk h4 hxx hrow
          obtain ⟨m, hm⟩ : ∃ m, p.L[k]? = some m := ⟨_, List.getElem?_eq_getElem hk⟩
          have hgd : p.L.getD k noMem = m := by rw [List.getD_eq_getElem?_getD, hm]; rfl
          have hmem : m ∈ p.L := List.mem_of_getElem? hm
          have hid := h3.lw.inv.idr m hmem
          have hst : Po.stOf p (m.id : Int) = m.st := Po.stOf_mem h3.lw.inv.ids hmem
          have hlast := Po.last_lt h3.lw.inv.ids h3.lw.inv.idr hm
          have hact := Po.act_succ hm
          have hactl := Po.act_le p.L k
          have hlen := h3.lw.inv.len
          have hl : (Instr.lookup 61 (.map (some M)) (.int .i64 (m.id : Int)) false).run Try.prog W = .ok (.int .i64 (m.st : Int)) W := by
            have := h4.look (id := (m.id : Int)) (by omega)
            rwa [hst] at this
          rw [hgd] at hrow
          have hm2 : m.st = 1 ∨ m.st = 2 := by
            have h1 := Po.stOf_le h3.lw.inv (m.id : Int)
            have h2 := Po.stOf_there h3.lw.inv (m.id : Int)
            have h5 : Po.there p.L (m.id : Int) = true := (Po.there_iff h3.lw.inv.ids _).2 ⟨m, hmem, rfl⟩
            rw [h5] at h2
            have h6 : Po.stOf p (m.id : Int) ≠ 0 := of_decide_eq_true h2.symm
            omega
          have cX := h4.r0.cell 0 _ rfl
          have gX := h4.r0.free 0
          have cC := h4.st.cell.cell 0 _ rfl
          have c17 := hrow.cell 0 _ rfl
          obtain ⟨ak, hak⟩ : ∃ ak, Po.actTo p.L k = ak := ⟨_, rfl⟩
          obtain ⟨la, hla⟩ : ∃ la, Po.lastId p.L k = la := ⟨_, rfl⟩
          rw [hla] at cX hlast
          have hle : ¬ (m.id : Int) ≤ (la : Int) := by omega
          have hle2 : ¬ m.id ≤ la := by omega
          have hb1 : (m.id : Int) ≤ 65535 := by omega
          have hb2 : (k : Int) ≤ 1000000 := by omega
          have hb3 : (ak : Int) ≤ 1000000 := by omega
          obtain ⟨W1, hW1⟩ : ∃ W1, W.setCell ⟨X, 0, none⟩ (.int .i64 (m.id : Int)) = W1 := ⟨_, rfl⟩
          have h5 : Cn w w1.heap.size W1 b u p M C i f X (m.id : Int) (k : Nat) (ak : Nat) := hW1 ▸ hak ▸ h4.set0 (m.id : Int)
          have cN := h5.r1.cell 0 _ rfl
          have gN := h5.r1.free 0
          have k1 : Keeps (fun k => k ≠ X ∧ k ≠ X + 1 ∧ k ≠ X + 2) W W1 := hW1 ▸ (Keeps.refl _ _).setCell (p := ⟨X, 0, none⟩) (by simp) _
          obtain ⟨W2, hW2⟩ : ∃ W2, W1.setCell ⟨X + 1, 0, none⟩ (.int .i64 ((k : Int) + 1)) = W2 := ⟨_, rfl⟩
          have h6 : Cn w w1.heap.size W2 b u p M C i f X (m.id : Int) ((k + 1 : Nat) : Int) (ak : Nat) := hW2 ▸ h5.set1 ((k : Int) + 1)
          have cA := h6.r2.cell 0 _ rfl
          have gA := h6.r2.free 0
          have k2 : Keeps (fun k => k ≠ X ∧ k ≠ X + 1 ∧ k ≠ X + 2) W W2 := hW2 ▸ k1.setCell (p := ⟨X + 1, 0, none⟩) (by simp) _
          have hlid : Po.lastId p.L (k + 1) = m.id := by show (p.L.getD k noMem).id = _; rw [hgd]
          rcases hm2 with hm2 | hm2
          · rw [hm2] at hl hact
            obtain ⟨W3, hW3⟩ : ∃ W3, W2.setCell ⟨X + 2, 0, none⟩ (.int .i64 ((ak : Int) + 1)) = W3 := ⟨_, rfl⟩
            have h7 : Cn w w1.heap.size W3 b u p M C i f X (m.id : Int) ((k + 1 : Nat) : Int) ((ak + 1 : Nat) : Int) := hW3 ▸ h6.set2 ((ak : Int) + 1)
            have k3 : Keeps (fun k => k ≠ X ∧ k ≠ X + 1 ∧ k ≠ X + 2) W W3 := hW3 ▸ k2.setCell (p := ⟨X + 2, 0, none⟩) (by simp) _
            rw [hak, if_pos rfl] at hact
            rw [← hlid, ← hact] at h7
            have H : Shut _ := ⟨(⟨k3, h7⟩ : _ ∧ _)⟩
            have hl : (Instr.lookup 61 (.map (some M)) (.int .i64 (m.id : Int)) false).run Try.prog W = .ok (.int .i64 1) W := hl
            simp only [varAct, allAct, hgd, hm2]
            clear h3 h4 h5 h6 h7 k1 k2 k3 hlid hact hrow hla hak hm hgd hmem hst hactl hlen hlast
            gi_wp2
            exact H.out
          · rw [hm2] at hl hact
            rw [hak, if_neg (by decide)] at hact
            rw [← hlid, show (ak : Int) = ((ak + 0 : Nat) : Int) from rfl, ← hact] at h6
            have H : Shut _ := ⟨(⟨k2, h6⟩ : _ ∧ _)⟩
            have hl : (Instr.lookup 61 (.map (some M)) (.int .i64 (m.id : Int)) false).run Try.prog W = .ok (.int .i64 2) W := hl
            simp only [varAct, allAct, hgd, hm2]
            clear h3 h4 h5 h6 k1 k2 hlid hact hrow hla hak hm hgd hmem hst hactl hlen hlast cA gA
            gi_wp2
            exact H.out
        case done =>
          rintro W h4 hK
          rw [Po.act_all] at h4
          rw [hsz] at hK ⊢
          obtain ⟨A, hA⟩ : ∃ A, Po.active p.L = A := ⟨_, rfl⟩
          rw [hA] at h4
          have HA : Shut (Po.active p.L = A) := ⟨hA⟩
          have HLw : Shut _ := ⟨h3.lw⟩
          have HR0 : Shut (Rs w w1.heap.size W b u p M C i f X (Po.left p.L 1) (A : Int)) := ⟨⟨⟨_, (left_one p.L).symm ▸ h4⟩, hK⟩⟩
          have hAb : (A : Int) ≤ 1000 := by have := h3.lw.act; omega
          clear h3 h4 hK hA hZc H3
          go_wp2_with fail
          go_loopw [19] (fun t W => ∃ j : Nat, t = .int .i64 (j : Int) ∧ 1 ≤ j ∧ j ≤ 21 ∧ Shut (Rs w w1.heap.size W b u p M C i f X (Po.left p.L j) (A : Int))) (fun t _ => 21 - (intOf t).toNat)
          case atStart => exact ⟨1, rfl, Nat.le_refl _, by omega, HR0⟩
          case round =>
            obtain ⟨j, rfl, hj1, hj2, HR⟩ := hrel
            clear HR0
            by_cases hj3 : j ≤ 20
            · have hj4 : (j : Int) ≤ 20 := by omega
              have hb := left_bounds HLw.out (j := j) (by omega)
              have hn := left_succ HLw.out hj1
              obtain ⟨l, h5⟩ := HR.out.cn
              obtain ⟨nn, hnn⟩ : ∃ nn, Po.left p.L j = nn := ⟨_, rfl⟩
              have hl := h5.look (id := (j : Int)) (by omega)
              have cN := h5.r1.cell 0 _ rfl
              have gN := h5.r1.free 0
              have cC := h5.st.cell.cell 0 _ rfl
              rw [hnn] at cN hb hn
              have hs3 : Po.stOf p (j : Int) = 0 ∨ Po.stOf p (j : Int) = 1 ∨ Po.stOf p (j : Int) = 2 := by have := Po.stOf_le HLw.out.inv (j : Int); omega
              have hb1 := hb.1
              have hb2 := hb.2
              clear h5 hb
              rcases hs3 with hs | hs | hs
              · rw [hs] at hl hn
                have hl : (Instr.lookup 61 (.map (some M)) (.int .i64 (j : Int)) false).run Try.prog wr = .ok (.int .i64 0) wr := hl
                have hR := HR.out
                rw [hnn, show nn = Po.left p.L (j + 1) by rw [hn, if_neg (by decide)]; omega] at hR
                have HR2 : Shut _ := ⟨hR⟩
                clear hR hn hnn hs HR
                go_wp2_with fail
                go_roundw
                case rel => exact ⟨j + 1, by go_num, by omega, by omega, HR2⟩
                case measure => simp [intOf]; omega
              · rw [hs] at hl hn
                have hl : (Instr.lookup 61 (.map (some M)) (.int .i64 (j : Int)) false).run Try.prog wr = .ok (.int .i64 1) wr := hl
                have hR := HR.out.set1 (nn - 1)
                have hR : Rs w w1.heap.size (wr.setCell ⟨X + 1, 0, none⟩ (.int .i64 (nn - 1))) b u p M C i f X (Po.left p.L (j + 1)) (A : Int) := by rw [hn, if_pos (by decide)]; exact hR
                have HR2 : Shut _ := ⟨hR⟩
                clear hR hn hnn hs HR
                go_wp2_with fail
                go_roundw
                case rel => exact ⟨j + 1, by go_num, by omega, by omega, HR2⟩
                case measure => simp [intOf]; omega
              · rw [hs] at hl hn
                have hl : (Instr.lookup 61 (.map (some M)) (.int .i64 (j : Int)) false).run Try.prog wr = .ok (.int .i64 2) wr := hl
                have hR := HR.out.set1 (nn - 1)
                have hR : Rs w w1.heap.size (wr.setCell ⟨X + 1, 0, none⟩ (.int .i64 (nn - 1))) b u p M C i f X (Po.left p.L (j + 1)) (A : Int) := by rw [hn, if_pos (by decide)]; exact hR
                have HR2 : Shut _ := ⟨hR⟩
                clear hR hn hnn hs HR
                go_wp2_with fail
                go_roundw
                case rel => exact ⟨j + 1, by go_num, by omega, by omega, HR2⟩
                case measure => simp [intOf]; omega
            · have hj4 : ¬ (j : Int) ≤ 20 := by omega
              have e0 := left_end HLw.out (j := j) (by omega)
              have hR := HR.out
              rw [e0] at hR
              have HR1 : Shut _ := ⟨hR⟩
              obtain ⟨l, h5⟩ := hR.cn
              obtain ⟨ok, hok⟩ : ∃ ok : Bool, (decide (0 < A) && decide (0 ≤ port ∧ port ≤ 65535)) = ok := ⟨_, rfl⟩
              obtain ⟨y1, y2, y3, hP⟩ := Po.pick_port p key0 port ok (by rw [HA.out]; exact hok)
              have hc := h5.st.run.pick ⟨6, 0, 0, port, 0⟩ ⟨⟨Int.le_refl 0, (by decide : (0 : Int) ≤ 4294967295)⟩, ⟨Int.le_refl 0, (by decide : (0 : Int) ≤ 4294967295)⟩⟩
              rw [hP] at hc
              have hC : Hid (Calls Try.prog 16 #[.pointer (some ⟨b.p, 0, none⟩), .agg #[.int .i64 6, .int .u32 0, .int .u32 0, .int .i64 port, .int .i64 0]] wr fun e w' => e = .returned (.tuple #[.agg #[.int .i64 (y1 : Int), .int .u32 (y2 : Int), .int .i64 (y3 : Int)], .bool ok]) ∧ Below wr.heap.size wr w') := hc
              have HOk : Shut _ := ⟨hok⟩
              have HJ : Shut (j = 21) := ⟨by omega⟩
              clear hc hP hok h5 hR HR e0 hj1 hj2 hj3
              go_wp2_with fail
              refine (unhide hC).mono ?_
              rintro e w6 ⟨rfl, hb6⟩
              have hR6 := (HR1.out.on hb6).on (alloc_on w6 (.cells #[.int .i64 (y1 : Int), .int .u32 (y2 : Int), .int .i64 (y3 : Int)] 33))
              have HR6 : Shut _ := ⟨hR6⟩
              clear hC hb6 hR6 HR1
              go_wp2_with fail
              obtain ⟨w7, hw7⟩ : ∃ w7, w6.alloc (.cells #[.int .i64 (y1 : Int), .int .u32 (y2 : Int), .int .i64 (y3 : Int)] 33) = w7 := ⟨_, rfl⟩
              rw [hw7] at HR6 ⊢
              have HD : Shut _ := ⟨HR6.out.drew⟩
              clear hw7 HR6
              by_cases hA1 : A = 0
              · obtain rfl : ok = false := by rw [← HOk.out, hA1]; rfl
                refine wp_region_grow_store (by kernel_rfl) [.bool true, .bool true, .int .i64 0, .bool true, .bool true, .bool true, .int .i64 (A : Int), .pointer (some ⟨b.p, 0, none⟩), .int .i64 (A : Int), .bool true, .bool true, .bool true, .bool false, .int .i64 (A : Int), .bool false, .bool false, undef, undef, .bool false, .bool false, undef, undef, .bool false, .bool true, .bool true, undef] 25 (fun v => v.setCell ⟨w.heap.size, 0, none⟩ (.bool true)) (by kernel_rfl) (by decide) rfl ?op ?store ?fin
                case op =>
                  intro i o bx u ho hne hbel hS
                  match i, ho with
                  | 0, ho =>
                    obtain rfl := Option.some.inj ho
                    have d5 : bx.tmps.getD 5 undef = .bool true := hS.base 5 (by kernel_rfl)
                    refine .inl ⟨rfl, ends_value (c := .bool true) ?_⟩
                    simp [execOp, Act.eval, d5]
                  | 1, ho =>
                    obtain rfl := Option.some.inj ho
                    have d158 : bx.tmps.getD 158 undef = .bool true := hS.dep 0 158 (by kernel_rfl) (by kernel_rfl)
                    refine .inl ⟨rfl, ends_value (c := .bool true) ?_⟩
                    simp [execOp, Act.eval, d158]
                  | 2, ho =>
                    obtain rfl := Option.some.inj ho
                    have d15 : bx.tmps.getD 15 undef = .pointer (some ⟨X + 1, 0, none⟩) := hS.base 15 (by kernel_rfl)
                    have gd : bx.tmps.getD 159 undef = .bool true := hS.dep 1 159 (by kernel_rfl) (by kernel_rfl)
                    have hl := (HD.out.on (hbel (by kernel_rfl))).cellN
                    refine .inl ⟨wanted_yes (j := 1) (t := 159) (c := true) (by kernel_rfl) (by kernel_rfl) gd, ends_value (c := .int .i64 0) ?_⟩
                    simp [Act.eval, d15, go_sem, hl]
                  | 3, ho =>
                    obtain rfl := Option.some.inj ho
                    have d160 : bx.tmps.getD 160 undef = .int .i64 0 := hS.dep 2 160 (by kernel_rfl) (by kernel_rfl)
                    have gd : bx.tmps.getD 159 undef = .bool true := hS.dep 1 159 (by kernel_rfl) (by kernel_rfl)
                    refine .inl ⟨wanted_yes (j := 1) (t := 159) (c := true) (by kernel_rfl) (by kernel_rfl) gd, ends_value (c := .bool true) ?_⟩
                    simp [Act.eval, d160, go_sem]
                  | 4, ho =>
                    obtain rfl := Option.some.inj ho
                    have d159 : bx.tmps.getD 159 undef = .bool true := hS.dep 1 159 (by kernel_rfl) (by kernel_rfl)
                    have d161 : bx.tmps.getD 161 undef = .bool true := hS.dep 3 161 (by kernel_rfl) (by kernel_rfl)
                    refine .inl ⟨rfl, ends_value (c := .bool true) ?_⟩
                    simp [Act.eval, d159, d161, go_sem]
                  | 5, ho =>
                    obtain rfl := Option.some.inj ho
                    have d162 : bx.tmps.getD 162 undef = .bool true := hS.dep 4 162 (by kernel_rfl) (by kernel_rfl)
                    refine .inl ⟨rfl, ends_value (c := .bool true) ?_⟩
                    simp [execOp, Act.eval, d162]
                  | 6, ho =>
                    obtain rfl := Option.some.inj ho
                    have d16 : bx.tmps.getD 16 undef = .pointer (some ⟨X + 2, 0, none⟩) := hS.base 16 (by kernel_rfl)
                    have gd : bx.tmps.getD 163 undef = .bool true := hS.dep 5 163 (by kernel_rfl) (by kernel_rfl)
                    have hl := (HD.out.on (hbel (by kernel_rfl))).cellA
                    refine .inl ⟨wanted_yes (j := 5) (t := 163) (c := true) (by kernel_rfl) (by kernel_rfl) gd, ends_value (c := .int .i64 (A : Int)) ?_⟩
                    simp [Act.eval, d16, go_sem, hl]
                  | 7, ho =>
                    obtain rfl := Option.some.inj ho
                    have d6 : bx.tmps.getD 6 undef = .pointer (some ⟨b.p, 0, none⟩) := hS.base 6 (by kernel_rfl)
                    have gd : bx.tmps.getD 163 undef = .bool true := hS.dep 5 163 (by kernel_rfl) (by kernel_rfl)
                    refine .inl ⟨wanted_yes (j := 5) (t := 163) (c := true) (by kernel_rfl) (by kernel_rfl) gd, ends_value (c := .pointer (some ⟨b.p, 0, none⟩)) ?_⟩
                    simp [execOp, Act.eval, d6]
                  | 8, ho =>
                    obtain rfl := Option.some.inj ho
                    have d165 : bx.tmps.getD 165 undef = .pointer (some ⟨b.p, 0, none⟩) := hS.dep 7 165 (by kernel_rfl) (by kernel_rfl)
                    have gd : bx.tmps.getD 163 undef = .bool true := hS.dep 5 163 (by kernel_rfl) (by kernel_rfl)
                    refine .inl ⟨wanted_yes (j := 5) (t := 163) (c := true) (by kernel_rfl) (by kernel_rfl) gd, ends_call (c := .int .i64 (A : Int)) (by kernel_rfl) (f := 12) (args := #[.pointer (some ⟨b.p, 0, none⟩)]) ?_ ((HD.out.on (hbel (by kernel_rfl))).active HA.out)⟩
                    simp [Act.eval, d165, go_sem]
                  | 9, ho =>
                    obtain rfl := Option.some.inj ho
                    have d164 : bx.tmps.getD 164 undef = .int .i64 (A : Int) := hS.dep 6 164 (by kernel_rfl) (by kernel_rfl)
                    have d166 : bx.tmps.getD 166 undef = .int .i64 (A : Int) := hS.dep 8 166 (by kernel_rfl) (by kernel_rfl)
                    have gd : bx.tmps.getD 163 undef = .bool true := hS.dep 5 163 (by kernel_rfl) (by kernel_rfl)
                    refine .inl ⟨wanted_yes (j := 5) (t := 163) (c := true) (by kernel_rfl) (by kernel_rfl) gd, ends_value (c := .bool true) ?_⟩
                    simp [Act.eval, d164, d166, go_sem]
                  | 10, ho =>
                    obtain rfl := Option.some.inj ho
                    have d163 : bx.tmps.getD 163 undef = .bool true := hS.dep 5 163 (by kernel_rfl) (by kernel_rfl)
                    have d167 : bx.tmps.getD 167 undef = .bool true := hS.dep 9 167 (by kernel_rfl) (by kernel_rfl)
                    refine .inl ⟨rfl, ends_value (c := .bool true) ?_⟩
                    simp [Act.eval, d163, d167, go_sem]
                  | 11, ho =>
                    obtain rfl := Option.some.inj ho
                    have d168 : bx.tmps.getD 168 undef = .bool true := hS.dep 10 168 (by kernel_rfl) (by kernel_rfl)
                    refine .inl ⟨rfl, ends_value (c := .bool true) ?_⟩
                    simp [execOp, Act.eval, d168]
                  | 12, ho =>
                    obtain rfl := Option.some.inj ho
                    have d21 : bx.tmps.getD 21 undef = .bool false := hS.base 21 (by kernel_rfl)
                    have gd : bx.tmps.getD 169 undef = .bool true := hS.dep 11 169 (by kernel_rfl) (by kernel_rfl)
                    refine .inl ⟨wanted_yes (j := 11) (t := 169) (c := true) (by kernel_rfl) (by kernel_rfl) gd, ends_value (c := .bool false) ?_⟩
                    simp [execOp, Act.eval, d21]
                  | 13, ho =>
                    obtain rfl := Option.some.inj ho
                    have d16 : bx.tmps.getD 16 undef = .pointer (some ⟨X + 2, 0, none⟩) := hS.base 16 (by kernel_rfl)
                    have gd : bx.tmps.getD 169 undef = .bool true := hS.dep 11 169 (by kernel_rfl) (by kernel_rfl)
                    have hl := (HD.out.on (hbel (by kernel_rfl))).cellA
                    refine .inl ⟨wanted_yes (j := 11) (t := 169) (c := true) (by kernel_rfl) (by kernel_rfl) gd, ends_value (c := .int .i64 (A : Int)) ?_⟩
                    simp [Act.eval, d16, go_sem, hl]
                  | 14, ho =>
                    obtain rfl := Option.some.inj ho
                    have d171 : bx.tmps.getD 171 undef = .int .i64 (A : Int) := hS.dep 13 171 (by kernel_rfl) (by kernel_rfl)
                    have gd : bx.tmps.getD 169 undef = .bool true := hS.dep 11 169 (by kernel_rfl) (by kernel_rfl)
                    refine .inl ⟨wanted_yes (j := 11) (t := 169) (c := true) (by kernel_rfl) (by kernel_rfl) gd, ends_value (c := .bool false) ?_⟩
                    simp [Act.eval, d171, go_sem, hA1]
                  | 15, ho =>
                    obtain rfl := Option.some.inj ho
                    have d172 : bx.tmps.getD 172 undef = .bool false := hS.dep 14 172 (by kernel_rfl) (by kernel_rfl)
                    have gd : bx.tmps.getD 169 undef = .bool true := hS.dep 11 169 (by kernel_rfl) (by kernel_rfl)
                    refine .inl ⟨wanted_yes (j := 11) (t := 169) (c := true) (by kernel_rfl) (by kernel_rfl) gd, ends_value (c := .bool false) ?_⟩
                    simp [execOp, Act.eval, d172]
                  | 16, ho =>
                    obtain rfl := Option.some.inj ho
                    have gd : bx.tmps.getD 173 undef = .bool false := hS.dep 15 173 (by kernel_rfl) (by kernel_rfl)
                    exact .inr ⟨wanted_no (j := 15) (t := 173) (c := true) (by kernel_rfl) (by kernel_rfl) gd, rfl⟩
                  | 17, ho =>
                    obtain rfl := Option.some.inj ho
                    have gd : bx.tmps.getD 173 undef = .bool false := hS.dep 15 173 (by kernel_rfl) (by kernel_rfl)
                    exact .inr ⟨wanted_no (j := 15) (t := 173) (c := true) (by kernel_rfl) (by kernel_rfl) gd, rfl⟩
                  | 18, ho =>
                    obtain rfl := Option.some.inj ho
                    have d173 : bx.tmps.getD 173 undef = .bool false := hS.dep 15 173 (by kernel_rfl) (by kernel_rfl)
                    have d175 : bx.tmps.getD 175 undef = undef := hS.dep 17 175 (by kernel_rfl) (by kernel_rfl)
                    have gd : bx.tmps.getD 169 undef = .bool true := hS.dep 11 169 (by kernel_rfl) (by kernel_rfl)
                    refine .inl ⟨wanted_yes (j := 11) (t := 169) (c := true) (by kernel_rfl) (by kernel_rfl) gd, ends_value (c := .bool false) ?_⟩
                    simp [Act.eval, d173, d175, go_sem]
                  | 19, ho =>
                    obtain rfl := Option.some.inj ho
                    have d176 : bx.tmps.getD 176 undef = .bool false := hS.dep 18 176 (by kernel_rfl) (by kernel_rfl)
                    have gd : bx.tmps.getD 169 undef = .bool true := hS.dep 11 169 (by kernel_rfl) (by kernel_rfl)
                    refine .inl ⟨wanted_yes (j := 11) (t := 169) (c := true) (by kernel_rfl) (by kernel_rfl) gd, ends_value (c := .bool false) ?_⟩
                    simp [execOp, Act.eval, d176]
                  | 20, ho =>
                    obtain rfl := Option.some.inj ho
                    have gd : bx.tmps.getD 177 undef = .bool false := hS.dep 19 177 (by kernel_rfl) (by kernel_rfl)
                    exact .inr ⟨wanted_no (j := 19) (t := 177) (c := true) (by kernel_rfl) (by kernel_rfl) gd, rfl⟩
                  | 21, ho =>
                    obtain rfl := Option.some.inj ho
                    have gd : bx.tmps.getD 177 undef = .bool false := hS.dep 19 177 (by kernel_rfl) (by kernel_rfl)
                    exact .inr ⟨wanted_no (j := 19) (t := 177) (c := true) (by kernel_rfl) (by kernel_rfl) gd, rfl⟩
                  | 22, ho =>
                    obtain rfl := Option.some.inj ho
                    have d177 : bx.tmps.getD 177 undef = .bool false := hS.dep 19 177 (by kernel_rfl) (by kernel_rfl)
                    have d179 : bx.tmps.getD 179 undef = undef := hS.dep 21 179 (by kernel_rfl) (by kernel_rfl)
                    have gd : bx.tmps.getD 169 undef = .bool true := hS.dep 11 169 (by kernel_rfl) (by kernel_rfl)
                    refine .inl ⟨wanted_yes (j := 11) (t := 169) (c := true) (by kernel_rfl) (by kernel_rfl) gd, ends_value (c := .bool false) ?_⟩
                    simp [Act.eval, d177, d179, go_sem]
                  | 23, ho =>
                    obtain rfl := Option.some.inj ho
                    have d170 : bx.tmps.getD 170 undef = .bool false := hS.dep 12 170 (by kernel_rfl) (by kernel_rfl)
                    have d180 : bx.tmps.getD 180 undef = .bool false := hS.dep 22 180 (by kernel_rfl) (by kernel_rfl)
                    have gd : bx.tmps.getD 169 undef = .bool true := hS.dep 11 169 (by kernel_rfl) (by kernel_rfl)
                    refine .inl ⟨wanted_yes (j := 11) (t := 169) (c := true) (by kernel_rfl) (by kernel_rfl) gd, ends_value (c := .bool true) ?_⟩
                    simp [Act.eval, d170, d180, go_sem]
                  | 24, ho =>
                    obtain rfl := Option.some.inj ho
                    have d169 : bx.tmps.getD 169 undef = .bool true := hS.dep 11 169 (by kernel_rfl) (by kernel_rfl)
                    have d181 : bx.tmps.getD 181 undef = .bool true := hS.dep 23 181 (by kernel_rfl) (by kernel_rfl)
                    refine .inl ⟨rfl, ends_value (c := .bool true) ?_⟩
                    simp [Act.eval, d169, d181, go_sem]
                  | 25, _ => exact absurd rfl hne
                  | n + 26, ho => exact absurd ho (by simp)
                case store =>
                  intro o bx u ho hbel hS
                  obtain rfl := Option.some.inj ho
                  have d4 : bx.tmps.getD 4 undef = .pointer (some ⟨w.heap.size, 0, none⟩) := hS.base 4 (by kernel_rfl)
                  have d182 : bx.tmps.getD 182 undef = .bool true := hS.dep 24 182 (by kernel_rfl) (by kernel_rfl)
                  have ry := (HD.out.on hbel).res.cell 0 _ rfl
                  have ryf := (HD.out.on hbel).res.free 0
                  refine ⟨rfl, ?_⟩
                  simp [Act.eval, d4, d182, go_sem, ry, ryf]
                case fin =>
                  intro u hbel
                  simp [putAll, dstAt, Act.put]
                  have HF : Shut _ := ⟨(HD.out.on hbel).fin true⟩
                  clear HD hbel
                  go_wp2_with fail
                  refine ⟨by simp, .inl ⟨_, _, rfl, run_takeDeferred HF.out.1, ?_⟩⟩
                  exact ⟨_, results_cell rfl _ _ _ _ rfl (HF.out.2.1 _), rfl, HF.out.2.2 _⟩
              · have hA2 : 0 < A := by omega
                by_cases hp1 : 0 ≤ port
                · by_cases hp2 : port ≤ 65535
                  · obtain rfl : ok = true := by rw [← HOk.out, decide_eq_true hA2, decide_eq_true ⟨hp1, hp2⟩]; rfl
                    refine wp_region_grow_store (by kernel_rfl) [.bool true, .bool true, .int .i64 0, .bool true, .bool true, .bool true, .int .i64 (A : Int), .pointer (some ⟨b.p, 0, none⟩), .int .i64 (A : Int), .bool true, .bool true, .bool true, .bool true, .int .i64 (A : Int), .bool true, .bool true, .int .i64 port, .bool true, .bool true, .bool true, .int .i64 port, .bool true, .bool true, .bool true, .bool true, undef] 25 (fun v => v.setCell ⟨w.heap.size, 0, none⟩ (.bool true)) (by kernel_rfl) (by decide) rfl ?op ?store ?fin
                    case op =>
                      intro i o bx u ho hne hbel hS
                      match i, ho with
                      | 0, ho =>
                        obtain rfl := Option.some.inj ho
                        have d5 : bx.tmps.getD 5 undef = .bool true := hS.base 5 (by kernel_rfl)
                        refine .inl ⟨rfl, ends_value (c := .bool true) ?_⟩
                        simp [execOp, Act.eval, d5]
                      | 1, ho =>
                        obtain rfl := Option.some.inj ho
                        have d158 : bx.tmps.getD 158 undef = .bool true := hS.dep 0 158 (by kernel_rfl) (by kernel_rfl)
                        refine .inl ⟨rfl, ends_value (c := .bool true) ?_⟩
                        simp [execOp, Act.eval, d158]
                      | 2, ho =>
                        obtain rfl := Option.some.inj ho
                        have d15 : bx.tmps.getD 15 undef = .pointer (some ⟨X + 1, 0, none⟩) := hS.base 15 (by kernel_rfl)
                        have gd : bx.tmps.getD 159 undef = .bool true := hS.dep 1 159 (by kernel_rfl) (by kernel_rfl)
                        have hl := (HD.out.on (hbel (by kernel_rfl))).cellN
                        refine .inl ⟨wanted_yes (j := 1) (t := 159) (c := true) (by kernel_rfl) (by kernel_rfl) gd, ends_value (c := .int .i64 0) ?_⟩
                        simp [Act.eval, d15, go_sem, hl]
                      | 3, ho =>
                        obtain rfl := Option.some.inj ho
                        have d160 : bx.tmps.getD 160 undef = .int .i64 0 := hS.dep 2 160 (by kernel_rfl) (by kernel_rfl)
                        have gd : bx.tmps.getD 159 undef = .bool true := hS.dep 1 159 (by kernel_rfl) (by kernel_rfl)
                        refine .inl ⟨wanted_yes (j := 1) (t := 159) (c := true) (by kernel_rfl) (by kernel_rfl) gd, ends_value (c := .bool true) ?_⟩
                        simp [Act.eval, d160, go_sem]
                      | 4, ho =>
                        obtain rfl := Option.some.inj ho
                        have d159 : bx.tmps.getD 159 undef = .bool true := hS.dep 1 159 (by kernel_rfl) (by kernel_rfl)
                        have d161 : bx.tmps.getD 161 undef = .bool true := hS.dep 3 161 (by kernel_rfl) (by kernel_rfl)
                        refine .inl ⟨rfl, ends_value (c := .bool true) ?_⟩
                        simp [Act.eval, d159, d161, go_sem]
                      | 5, ho =>
                        obtain rfl := Option.some.inj ho
                        have d162 : bx.tmps.getD 162 undef = .bool true := hS.dep 4 162 (by kernel_rfl) (by kernel_rfl)
                        refine .inl ⟨rfl, ends_value (c := .bool true) ?_⟩
                        simp [execOp, Act.eval, d162]
                      | 6, ho =>
                        obtain rfl := Option.some.inj ho
                        have d16 : bx.tmps.getD 16 undef = .pointer (some ⟨X + 2, 0, none⟩) := hS.base 16 (by kernel_rfl)
                        have gd : bx.tmps.getD 163 undef = .bool true := hS.dep 5 163 (by kernel_rfl) (by kernel_rfl)
                        have hl := (HD.out.on (hbel (by kernel_rfl))).cellA
                        refine .inl ⟨wanted_yes (j := 5) (t := 163) (c := true) (by kernel_rfl) (by kernel_rfl) gd, ends_value (c := .int .i64 (A : Int)) ?_⟩
                        simp [Act.eval, d16, go_sem, hl]
                      | 7, ho =>
                        obtain rfl := Option.some.inj ho
                        have d6 : bx.tmps.getD 6 undef = .pointer (some ⟨b.p, 0, none⟩) := hS.base 6 (by kernel_rfl)
                        have gd : bx.tmps.getD 163 undef = .bool true := hS.dep 5 163 (by kernel_rfl) (by kernel_rfl)
                        refine .inl ⟨wanted_yes (j := 5) (t := 163) (c := true) (by kernel_rfl) (by kernel_rfl) gd, ends_value (c := .pointer (some ⟨b.p, 0, none⟩)) ?_⟩
                        simp [execOp, Act.eval, d6]
                      | 8, ho =>
                        obtain rfl := Option.some.inj ho
                        have d165 : bx.tmps.getD 165 undef = .pointer (some ⟨b.p, 0, none⟩) := hS.dep 7 165 (by kernel_rfl) (by kernel_rfl)
                        have gd : bx.tmps.getD 163 undef = .bool true := hS.dep 5 163 (by kernel_rfl) (by kernel_rfl)
                        refine .inl ⟨wanted_yes (j := 5) (t := 163) (c := true) (by kernel_rfl) (by kernel_rfl) gd, ends_call (c := .int .i64 (A : Int)) (by kernel_rfl) (f := 12) (args := #[.pointer (some ⟨b.p, 0, none⟩)]) ?_ ((HD.out.on (hbel (by kernel_rfl))).active HA.out)⟩
                        simp [Act.eval, d165, go_sem]
                      | 9, ho =>
                        obtain rfl := Option.some.inj ho
                        have d164 : bx.tmps.getD 164 undef = .int .i64 (A : Int) := hS.dep 6 164 (by kernel_rfl) (by kernel_rfl)
                        have d166 : bx.tmps.getD 166 undef = .int .i64 (A : Int) := hS.dep 8 166 (by kernel_rfl) (by kernel_rfl)
                        have gd : bx.tmps.getD 163 undef = .bool true := hS.dep 5 163 (by kernel_rfl) (by kernel_rfl)
                        refine .inl ⟨wanted_yes (j := 5) (t := 163) (c := true) (by kernel_rfl) (by kernel_rfl) gd, ends_value (c := .bool true) ?_⟩
                        simp [Act.eval, d164, d166, go_sem]
                      | 10, ho =>
                        obtain rfl := Option.some.inj ho
                        have d163 : bx.tmps.getD 163 undef = .bool true := hS.dep 5 163 (by kernel_rfl) (by kernel_rfl)
                        have d167 : bx.tmps.getD 167 undef = .bool true := hS.dep 9 167 (by kernel_rfl) (by kernel_rfl)
                        refine .inl ⟨rfl, ends_value (c := .bool true) ?_⟩
                        simp [Act.eval, d163, d167, go_sem]
                      | 11, ho =>
                        obtain rfl := Option.some.inj ho
                        have d168 : bx.tmps.getD 168 undef = .bool true := hS.dep 10 168 (by kernel_rfl) (by kernel_rfl)
                        refine .inl ⟨rfl, ends_value (c := .bool true) ?_⟩
                        simp [execOp, Act.eval, d168]
                      | 12, ho =>
                        obtain rfl := Option.some.inj ho
                        have d21 : bx.tmps.getD 21 undef = .bool true := hS.base 21 (by kernel_rfl)
                        have gd : bx.tmps.getD 169 undef = .bool true := hS.dep 11 169 (by kernel_rfl) (by kernel_rfl)
                        refine .inl ⟨wanted_yes (j := 11) (t := 169) (c := true) (by kernel_rfl) (by kernel_rfl) gd, ends_value (c := .bool true) ?_⟩
                        simp [execOp, Act.eval, d21]
                      | 13, ho =>
                        obtain rfl := Option.some.inj ho
                        have d16 : bx.tmps.getD 16 undef = .pointer (some ⟨X + 2, 0, none⟩) := hS.base 16 (by kernel_rfl)
                        have gd : bx.tmps.getD 169 undef = .bool true := hS.dep 11 169 (by kernel_rfl) (by kernel_rfl)
                        have hl := (HD.out.on (hbel (by kernel_rfl))).cellA
                        refine .inl ⟨wanted_yes (j := 11) (t := 169) (c := true) (by kernel_rfl) (by kernel_rfl) gd, ends_value (c := .int .i64 (A : Int)) ?_⟩
                        simp [Act.eval, d16, go_sem, hl]
                      | 14, ho =>
                        obtain rfl := Option.some.inj ho
                        have d171 : bx.tmps.getD 171 undef = .int .i64 (A : Int) := hS.dep 13 171 (by kernel_rfl) (by kernel_rfl)
                        have gd : bx.tmps.getD 169 undef = .bool true := hS.dep 11 169 (by kernel_rfl) (by kernel_rfl)
                        refine .inl ⟨wanted_yes (j := 11) (t := 169) (c := true) (by kernel_rfl) (by kernel_rfl) gd, ends_value (c := .bool true) ?_⟩
                        simp [Act.eval, d171, go_sem, hA2]
                      | 15, ho =>
                        obtain rfl := Option.some.inj ho
                        have d172 : bx.tmps.getD 172 undef = .bool true := hS.dep 14 172 (by kernel_rfl) (by kernel_rfl)
                        have gd : bx.tmps.getD 169 undef = .bool true := hS.dep 11 169 (by kernel_rfl) (by kernel_rfl)
                        refine .inl ⟨wanted_yes (j := 11) (t := 169) (c := true) (by kernel_rfl) (by kernel_rfl) gd, ends_value (c := .bool true) ?_⟩
                        simp [execOp, Act.eval, d172]
                      | 16, ho =>
                        obtain rfl := Option.some.inj ho
                        have d1 : bx.tmps.getD 1 undef = .int .i64 port := hS.base 1 (by kernel_rfl)
                        have gd : bx.tmps.getD 173 undef = .bool true := hS.dep 15 173 (by kernel_rfl) (by kernel_rfl)
                        refine .inl ⟨wanted_yes (j := 15) (t := 173) (c := true) (by kernel_rfl) (by kernel_rfl) gd, ends_value (c := .int .i64 port) ?_⟩
                        simp [execOp, Act.eval, d1]
                      | 17, ho =>
                        obtain rfl := Option.some.inj ho
                        have d174 : bx.tmps.getD 174 undef = .int .i64 port := hS.dep 16 174 (by kernel_rfl) (by kernel_rfl)
                        have gd : bx.tmps.getD 173 undef = .bool true := hS.dep 15 173 (by kernel_rfl) (by kernel_rfl)
                        refine .inl ⟨wanted_yes (j := 15) (t := 173) (c := true) (by kernel_rfl) (by kernel_rfl) gd, ends_value (c := .bool true) ?_⟩
                        simp [Act.eval, d174, go_sem, hp1]
                      | 18, ho =>
                        obtain rfl := Option.some.inj ho
                        have d173 : bx.tmps.getD 173 undef = .bool true := hS.dep 15 173 (by kernel_rfl) (by kernel_rfl)
                        have d175 : bx.tmps.getD 175 undef = .bool true := hS.dep 17 175 (by kernel_rfl) (by kernel_rfl)
                        have gd : bx.tmps.getD 169 undef = .bool true := hS.dep 11 169 (by kernel_rfl) (by kernel_rfl)
                        refine .inl ⟨wanted_yes (j := 11) (t := 169) (c := true) (by kernel_rfl) (by kernel_rfl) gd, ends_value (c := .bool true) ?_⟩
                        simp [Act.eval, d173, d175, go_sem]
                      | 19, ho =>
                        obtain rfl := Option.some.inj ho
                        have d176 : bx.tmps.getD 176 undef = .bool true := hS.dep 18 176 (by kernel_rfl) (by kernel_rfl)
                        have gd : bx.tmps.getD 169 undef = .bool true := hS.dep 11 169 (by kernel_rfl) (by kernel_rfl)
                        refine .inl ⟨wanted_yes (j := 11) (t := 169) (c := true) (by kernel_rfl) (by kernel_rfl) gd, ends_value (c := .bool true) ?_⟩
                        simp [execOp, Act.eval, d176]
                      | 20, ho =>
                        obtain rfl := Option.some.inj ho
                        have d1 : bx.tmps.getD 1 undef = .int .i64 port := hS.base 1 (by kernel_rfl)
                        have gd : bx.tmps.getD 177 undef = .bool true := hS.dep 19 177 (by kernel_rfl) (by kernel_rfl)
                        refine .inl ⟨wanted_yes (j := 19) (t := 177) (c := true) (by kernel_rfl) (by kernel_rfl) gd, ends_value (c := .int .i64 port) ?_⟩
                        simp [execOp, Act.eval, d1]
                      | 21, ho =>
                        obtain rfl := Option.some.inj ho
                        have d178 : bx.tmps.getD 178 undef = .int .i64 port := hS.dep 20 178 (by kernel_rfl) (by kernel_rfl)
                        have gd : bx.tmps.getD 177 undef = .bool true := hS.dep 19 177 (by kernel_rfl) (by kernel_rfl)
                        refine .inl ⟨wanted_yes (j := 19) (t := 177) (c := true) (by kernel_rfl) (by kernel_rfl) gd, ends_value (c := .bool true) ?_⟩
                        simp [Act.eval, d178, go_sem, hp2]
                      | 22, ho =>
                        obtain rfl := Option.some.inj ho
                        have d177 : bx.tmps.getD 177 undef = .bool true := hS.dep 19 177 (by kernel_rfl) (by kernel_rfl)
                        have d179 : bx.tmps.getD 179 undef = .bool true := hS.dep 21 179 (by kernel_rfl) (by kernel_rfl)
                        have gd : bx.tmps.getD 169 undef = .bool true := hS.dep 11 169 (by kernel_rfl) (by kernel_rfl)
                        refine .inl ⟨wanted_yes (j := 11) (t := 169) (c := true) (by kernel_rfl) (by kernel_rfl) gd, ends_value (c := .bool true) ?_⟩
                        simp [Act.eval, d177, d179, go_sem]
                      | 23, ho =>
                        obtain rfl := Option.some.inj ho
                        have d170 : bx.tmps.getD 170 undef = .bool true := hS.dep 12 170 (by kernel_rfl) (by kernel_rfl)
                        have d180 : bx.tmps.getD 180 undef = .bool true := hS.dep 22 180 (by kernel_rfl) (by kernel_rfl)
                        have gd : bx.tmps.getD 169 undef = .bool true := hS.dep 11 169 (by kernel_rfl) (by kernel_rfl)
                        refine .inl ⟨wanted_yes (j := 11) (t := 169) (c := true) (by kernel_rfl) (by kernel_rfl) gd, ends_value (c := .bool true) ?_⟩
                        simp [Act.eval, d170, d180, go_sem]
                      | 24, ho =>
                        obtain rfl := Option.some.inj ho
                        have d169 : bx.tmps.getD 169 undef = .bool true := hS.dep 11 169 (by kernel_rfl) (by kernel_rfl)
                        have d181 : bx.tmps.getD 181 undef = .bool true := hS.dep 23 181 (by kernel_rfl) (by kernel_rfl)
                        refine .inl ⟨rfl, ends_value (c := .bool true) ?_⟩
                        simp [Act.eval, d169, d181, go_sem]
                      | 25, _ => exact absurd rfl hne
                      | n + 26, ho => exact absurd ho (by simp)
                    case store =>
                      intro o bx u ho hbel hS
                      obtain rfl := Option.some.inj ho
                      have d4 : bx.tmps.getD 4 undef = .pointer (some ⟨w.heap.size, 0, none⟩) := hS.base 4 (by kernel_rfl)
                      have d182 : bx.tmps.getD 182 undef = .bool true := hS.dep 24 182 (by kernel_rfl) (by kernel_rfl)
                      have ry := (HD.out.on hbel).res.cell 0 _ rfl
                      have ryf := (HD.out.on hbel).res.free 0
                      refine ⟨rfl, ?_⟩
                      simp [Act.eval, d4, d182, go_sem, ry, ryf]
                    case fin =>
                      intro u hbel
                      simp [putAll, dstAt, Act.put]
                      have HF : Shut _ := ⟨(HD.out.on hbel).fin true⟩
                      clear HD hbel
                      go_wp2_with fail
                      refine ⟨by simp, .inl ⟨_, _, rfl, run_takeDeferred HF.out.1, ?_⟩⟩
                      exact ⟨_, results_cell rfl _ _ _ _ rfl (HF.out.2.1 _), rfl, HF.out.2.2 _⟩
                  · have hp3 : 65535 < port := by omega
                    obtain rfl : ok = false := by rw [← HOk.out, decide_eq_true hA2, decide_eq_false (fun h => hp2 h.2)]; rfl
                    refine wp_region_grow_store (by kernel_rfl) [.bool true, .bool true, .int .i64 0, .bool true, .bool true, .bool true, .int .i64 (A : Int), .pointer (some ⟨b.p, 0, none⟩), .int .i64 (A : Int), .bool true, .bool true, .bool true, .bool false, .int .i64 (A : Int), .bool true, .bool true, .int .i64 port, .bool true, .bool true, .bool true, .int .i64 port, .bool false, .bool false, .bool true, .bool true, undef] 25 (fun v => v.setCell ⟨w.heap.size, 0, none⟩ (.bool true)) (by kernel_rfl) (by decide) rfl ?op ?store ?fin
                    case op =>
                      intro i o bx u ho hne hbel hS
                      match i, ho with
                      | 0, ho =>
                        obtain rfl := Option.some.inj ho
                        have d5 : bx.tmps.getD 5 undef = .bool true := hS.base 5 (by kernel_rfl)
                        refine .inl ⟨rfl, ends_value (c := .bool true) ?_⟩
                        simp [execOp, Act.eval, d5]
                      | 1, ho =>
                        obtain rfl := Option.some.inj ho
                        have d158 : bx.tmps.getD 158 undef = .bool true := hS.dep 0 158 (by kernel_rfl) (by kernel_rfl)
                        refine .inl ⟨rfl, ends_value (c := .bool true) ?_⟩
                        simp [execOp, Act.eval, d158]
                      | 2, ho =>
                        obtain rfl := Option.some.inj ho
                        have d15 : bx.tmps.getD 15 undef = .pointer (some ⟨X + 1, 0, none⟩) := hS.base 15 (by kernel_rfl)
                        have gd : bx.tmps.getD 159 undef = .bool true := hS.dep 1 159 (by kernel_rfl) (by kernel_rfl)
                        have hl := (HD.out.on (hbel (by kernel_rfl))).cellN
                        refine .inl ⟨wanted_yes (j := 1) (t := 159) (c := true) (by kernel_rfl) (by kernel_rfl) gd, ends_value (c := .int .i64 0) ?_⟩
                        simp [Act.eval, d15, go_sem, hl]
                      | 3, ho =>
                        obtain rfl := Option.some.inj ho
                        have d160 : bx.tmps.getD 160 undef = .int .i64 0 := hS.dep 2 160 (by kernel_rfl) (by kernel_rfl)
                        have gd : bx.tmps.getD 159 undef = .bool true := hS.dep 1 159 (by kernel_rfl) (by kernel_rfl)
                        refine .inl ⟨wanted_yes (j := 1) (t := 159) (c := true) (by kernel_rfl) (by kernel_rfl) gd, ends_value (c := .bool true) ?_⟩
                        simp [Act.eval, d160, go_sem]
                      | 4, ho =>
                        obtain rfl := Option.some.inj ho
                        have d159 : bx.tmps.getD 159 undef = .bool true := hS.dep 1 159 (by kernel_rfl) (by kernel_rfl)
                        have d161 : bx.tmps.getD 161 undef = .bool true := hS.dep 3 161 (by kernel_rfl) (by kernel_rfl)
                        refine .inl ⟨rfl, ends_value (c := .bool true) ?_⟩
                        simp [Act.eval, d159, d161, go_sem]
                      | 5, ho =>
                        obtain rfl := Option.some.inj ho
                        have d162 : bx.tmps.getD 162 undef = .bool true := hS.dep 4 162 (by kernel_rfl) (by kernel_rfl)
                        refine .inl ⟨rfl, ends_value (c := .bool true) ?_⟩
                        simp [execOp, Act.eval, d162]
                      | 6, ho =>
                        obtain rfl := Option.some.inj ho
                        have d16 : bx.tmps.getD 16 undef = .pointer (some ⟨X + 2, 0, none⟩) := hS.base 16 (by kernel_rfl)
                        have gd : bx.tmps.getD 163 undef = .bool true := hS.dep 5 163 (by kernel_rfl) (by kernel_rfl)
                        have hl := (HD.out.on (hbel (by kernel_rfl))).cellA
                        refine .inl ⟨wanted_yes (j := 5) (t := 163) (c := true) (by kernel_rfl) (by kernel_rfl) gd, ends_value (c := .int .i64 (A : Int)) ?_⟩
                        simp [Act.eval, d16, go_sem, hl]
                      | 7, ho =>
                        obtain rfl := Option.some.inj ho
                        have d6 : bx.tmps.getD 6 undef = .pointer (some ⟨b.p, 0, none⟩) := hS.base 6 (by kernel_rfl)
                        have gd : bx.tmps.getD 163 undef = .bool true := hS.dep 5 163 (by kernel_rfl) (by kernel_rfl)
                        refine .inl ⟨wanted_yes (j := 5) (t := 163) (c := true) (by kernel_rfl) (by kernel_rfl) gd, ends_value (c := .pointer (some ⟨b.p, 0, none⟩)) ?_⟩
                        simp [execOp, Act.eval, d6]
                      | 8, ho =>
                        obtain rfl := Option.some.inj ho
                        have d165 : bx.tmps.getD 165 undef = .pointer (some ⟨b.p, 0, none⟩) := hS.dep 7 165 (by kernel_rfl) (by kernel_rfl)
                        have gd : bx.tmps.getD 163 undef = .bool true := hS.dep 5 163 (by kernel_rfl) (by kernel_rfl)
                        refine .inl ⟨wanted_yes (j := 5) (t := 163) (c := true) (by kernel_rfl) (by kernel_rfl) gd, ends_call (c := .int .i64 (A : Int)) (by kernel_rfl) (f := 12) (args := #[.pointer (some ⟨b.p, 0, none⟩)]) ?_ ((HD.out.on (hbel (by kernel_rfl))).active HA.out)⟩
                        simp [Act.eval, d165, go_sem]
                      | 9, ho =>
                        obtain rfl := Option.some.inj ho
                        have d164 : bx.tmps.getD 164 undef = .int .i64 (A : Int) := hS.dep 6 164 (by kernel_rfl) (by kernel_rfl)
                        have d166 : bx.tmps.getD 166 undef = .int .i64 (A : Int) := hS.dep 8 166 (by kernel_rfl) (by kernel_rfl)
                        have gd : bx.tmps.getD 163 undef = .bool true := hS.dep 5 163 (by kernel_rfl) (by kernel_rfl)
                        refine .inl ⟨wanted_yes (j := 5) (t := 163) (c := true) (by kernel_rfl) (by kernel_rfl) gd, ends_value (c := .bool true) ?_⟩
                        simp [Act.eval, d164, d166, go_sem]
                      | 10, ho =>
                        obtain rfl := Option.some.inj ho
                        have d163 : bx.tmps.getD 163 undef = .bool true := hS.dep 5 163 (by kernel_rfl) (by kernel_rfl)
                        have d167 : bx.tmps.getD 167 undef = .bool true := hS.dep 9 167 (by kernel_rfl) (by kernel_rfl)
                        refine .inl ⟨rfl, ends_value (c := .bool true) ?_⟩
                        simp [Act.eval, d163, d167, go_sem]
                      | 11, ho =>
                        obtain rfl := Option.some.inj ho
                        have d168 : bx.tmps.getD 168 undef = .bool true := hS.dep 10 168 (by kernel_rfl) (by kernel_rfl)
                        refine .inl ⟨rfl, ends_value (c := .bool true) ?_⟩
                        simp [execOp, Act.eval, d168]
                      | 12, ho =>
                        obtain rfl := Option.some.inj ho
                        have d21 : bx.tmps.getD 21 undef = .bool false := hS.base 21 (by kernel_rfl)
                        have gd : bx.tmps.getD 169 undef = .bool true := hS.dep 11 169 (by kernel_rfl) (by kernel_rfl)
                        refine .inl ⟨wanted_yes (j := 11) (t := 169) (c := true) (by kernel_rfl) (by kernel_rfl) gd, ends_value (c := .bool false) ?_⟩
                        simp [execOp, Act.eval, d21]
                      | 13, ho =>
                        obtain rfl := Option.some.inj ho
                        have d16 : bx.tmps.getD 16 undef = .pointer (some ⟨X + 2, 0, none⟩) := hS.base 16 (by kernel_rfl)
                        have gd : bx.tmps.getD 169 undef = .bool true := hS.dep 11 169 (by kernel_rfl) (by kernel_rfl)
                        have hl := (HD.out.on (hbel (by kernel_rfl))).cellA
                        refine .inl ⟨wanted_yes (j := 11) (t := 169) (c := true) (by kernel_rfl) (by kernel_rfl) gd, ends_value (c := .int .i64 (A : Int)) ?_⟩
                        simp [Act.eval, d16, go_sem, hl]
                      | 14, ho =>
                        obtain rfl := Option.some.inj ho
                        have d171 : bx.tmps.getD 171 undef = .int .i64 (A : Int) := hS.dep 13 171 (by kernel_rfl) (by kernel_rfl)
                        have gd : bx.tmps.getD 169 undef = .bool true := hS.dep 11 169 (by kernel_rfl) (by kernel_rfl)
                        refine .inl ⟨wanted_yes (j := 11) (t := 169) (c := true) (by kernel_rfl) (by kernel_rfl) gd, ends_value (c := .bool true) ?_⟩
                        simp [Act.eval, d171, go_sem, hA2]
                      | 15, ho =>
                        obtain rfl := Option.some.inj ho
                        have d172 : bx.tmps.getD 172 undef = .bool true := hS.dep 14 172 (by kernel_rfl) (by kernel_rfl)
                        have gd : bx.tmps.getD 169 undef = .bool true := hS.dep 11 169 (by kernel_rfl) (by kernel_rfl)
                        refine .inl ⟨wanted_yes (j := 11) (t := 169) (c := true) (by kernel_rfl) (by kernel_rfl) gd, ends_value (c := .bool true) ?_⟩
                        simp [execOp, Act.eval, d172]
                      | 16, ho =>
                        obtain rfl := Option.some.inj ho
                        have d1 : bx.tmps.getD 1 undef = .int .i64 port := hS.base 1 (by kernel_rfl)
                        have gd : bx.tmps.getD 173 undef = .bool true := hS.dep 15 173 (by kernel_rfl) (by kernel_rfl)
                        refine .inl ⟨wanted_yes (j := 15) (t := 173) (c := true) (by kernel_rfl) (by kernel_rfl) gd, ends_value (c := .int .i64 port) ?_⟩
                        simp [execOp, Act.eval, d1]
                      | 17, ho =>
                        obtain rfl := Option.some.inj ho
                        have d174 : bx.tmps.getD 174 undef = .int .i64 port := hS.dep 16 174 (by kernel_rfl) (by kernel_rfl)
                        have gd : bx.tmps.getD 173 undef = .bool true := hS.dep 15 173 (by kernel_rfl) (by kernel_rfl)
                        refine .inl ⟨wanted_yes (j := 15) (t := 173) (c := true) (by kernel_rfl) (by kernel_rfl) gd, ends_value (c := .bool true) ?_⟩
                        simp [Act.eval, d174, go_sem, hp1]
                      | 18, ho =>
                        obtain rfl := Option.some.inj ho
                        have d173 : bx.tmps.getD 173 undef = .bool true := hS.dep 15 173 (by kernel_rfl) (by kernel_rfl)
                        have d175 : bx.tmps.getD 175 undef = .bool true := hS.dep 17 175 (by kernel_rfl) (by kernel_rfl)
                        have gd : bx.tmps.getD 169 undef = .bool true := hS.dep 11 169 (by kernel_rfl) (by kernel_rfl)
                        refine .inl ⟨wanted_yes (j := 11) (t := 169) (c := true) (by kernel_rfl) (by kernel_rfl) gd, ends_value (c := .bool true) ?_⟩
                        simp [Act.eval, d173, d175, go_sem]
                      | 19, ho =>
                        obtain rfl := Option.some.inj ho
                        have d176 : bx.tmps.getD 176 undef = .bool true := hS.dep 18 176 (by kernel_rfl) (by kernel_rfl)
                        have gd : bx.tmps.getD 169 undef = .bool true := hS.dep 11 169 (by kernel_rfl) (by kernel_rfl)
                        refine .inl ⟨wanted_yes (j := 11) (t := 169) (c := true) (by kernel_rfl) (by kernel_rfl) gd, ends_value (c := .bool true) ?_⟩
                        simp [execOp, Act.eval, d176]
                      | 20, ho =>
                        obtain rfl := Option.some.inj ho
                        have d1 : bx.tmps.getD 1 undef = .int .i64 port := hS.base 1 (by kernel_rfl)
                        have gd : bx.tmps.getD 177 undef = .bool true := hS.dep 19 177 (by kernel_rfl) (by kernel_rfl)
                        refine .inl ⟨wanted_yes (j := 19) (t := 177) (c := true) (by kernel_rfl) (by kernel_rfl) gd, ends_value (c := .int .i64 port) ?_⟩
                        simp [execOp, Act.eval, d1]
                      | 21, ho =>
                        obtain rfl := Option.some.inj ho
                        have d178 : bx.tmps.getD 178 undef = .int .i64 port := hS.dep 20 178 (by kernel_rfl) (by kernel_rfl)
                        have gd : bx.tmps.getD 177 undef = .bool true := hS.dep 19 177 (by kernel_rfl) (by kernel_rfl)
                        refine .inl ⟨wanted_yes (j := 19) (t := 177) (c := true) (by kernel_rfl) (by kernel_rfl) gd, ends_value (c := .bool false) ?_⟩
                        simp [Act.eval, d178, go_sem, hp2]
                      | 22, ho =>
                        obtain rfl := Option.some.inj ho
                        have d177 : bx.tmps.getD 177 undef = .bool true := hS.dep 19 177 (by kernel_rfl) (by kernel_rfl)
                        have d179 : bx.tmps.getD 179 undef = .bool false := hS.dep 21 179 (by kernel_rfl) (by kernel_rfl)
                        have gd : bx.tmps.getD 169 undef = .bool true := hS.dep 11 169 (by kernel_rfl) (by kernel_rfl)
                        refine .inl ⟨wanted_yes (j := 11) (t := 169) (c := true) (by kernel_rfl) (by kernel_rfl) gd, ends_value (c := .bool false) ?_⟩
                        simp [Act.eval, d177, d179, go_sem]
                      | 23, ho =>
                        obtain rfl := Option.some.inj ho
                        have d170 : bx.tmps.getD 170 undef = .bool false := hS.dep 12 170 (by kernel_rfl) (by kernel_rfl)
                        have d180 : bx.tmps.getD 180 undef = .bool false := hS.dep 22 180 (by kernel_rfl) (by kernel_rfl)
                        have gd : bx.tmps.getD 169 undef = .bool true := hS.dep 11 169 (by kernel_rfl) (by kernel_rfl)
                        refine .inl ⟨wanted_yes (j := 11) (t := 169) (c := true) (by kernel_rfl) (by kernel_rfl) gd, ends_value (c := .bool true) ?_⟩
                        simp [Act.eval, d170, d180, go_sem]
                      | 24, ho =>
                        obtain rfl := Option.some.inj ho
                        have d169 : bx.tmps.getD 169 undef = .bool true := hS.dep 11 169 (by kernel_rfl) (by kernel_rfl)
                        have d181 : bx.tmps.getD 181 undef = .bool true := hS.dep 23 181 (by kernel_rfl) (by kernel_rfl)
                        refine .inl ⟨rfl, ends_value (c := .bool true) ?_⟩
                        simp [Act.eval, d169, d181, go_sem]
                      | 25, _ => exact absurd rfl hne
                      | n + 26, ho => exact absurd ho (by simp)
                    case store =>
                      intro o bx u ho hbel hS
                      obtain rfl := Option.some.inj ho
                      have d4 : bx.tmps.getD 4 undef = .pointer (some ⟨w.heap.size, 0, none⟩) := hS.base 4 (by kernel_rfl)
                      have d182 : bx.tmps.getD 182 undef = .bool true := hS.dep 24 182 (by kernel_rfl) (by kernel_rfl)
                      have ry := (HD.out.on hbel).res.cell 0 _ rfl
                      have ryf := (HD.out.on hbel).res.free 0
                      refine ⟨rfl, ?_⟩
                      simp [Act.eval, d4, d182, go_sem, ry, ryf]
                    case fin =>
                      intro u hbel
                      simp [putAll, dstAt, Act.put]
                      have HF : Shut _ := ⟨(HD.out.on hbel).fin true⟩
                      clear HD hbel
                      go_wp2_with fail
                      refine ⟨by simp, .inl ⟨_, _, rfl, run_takeDeferred HF.out.1, ?_⟩⟩
                      exact ⟨_, results_cell rfl _ _ _ _ rfl (HF.out.2.1 _), rfl, HF.out.2.2 _⟩
                · have hp3 : port < 0 := by omega
                  obtain rfl : ok = false := by rw [← HOk.out, decide_eq_true hA2, decide_eq_false (fun h => hp1 h.1)]; rfl
                  refine wp_region_grow_store (by kernel_rfl) [.bool true, .bool true, .int .i64 0, .bool true, .bool true, .bool true, .int .i64 (A : Int), .pointer (some ⟨b.p, 0, none⟩), .int .i64 (A : Int), .bool true, .bool true, .bool true, .bool false, .int .i64 (A : Int), .bool true, .bool true, .int .i64 port, .bool false, .bool false, .bool false, undef, undef, .bool false, .bool true, .bool true, undef] 25 (fun v => v.setCell ⟨w.heap.size, 0, none⟩ (.bool true)) (by kernel_rfl) (by decide) rfl ?op ?store ?fin
                  case op =>
                    intro i o bx u ho hne hbel hS
                    match i, ho with
                    | 0, ho =>
                      obtain rfl := Option.some.inj ho
                      have d5 : bx.tmps.getD 5 undef = .bool true := hS.base 5 (by kernel_rfl)
                      refine .inl ⟨rfl, ends_value (c := .bool true) ?_⟩
                      simp [execOp, Act.eval, d5]
                    | 1, ho =>
                      obtain rfl := Option.some.inj ho
                      have d158 : bx.tmps.getD 158 undef = .bool true := hS.dep 0 158 (by kernel_rfl) (by kernel_rfl)
                      refine .inl ⟨rfl, ends_value (c := .bool true) ?_⟩
                      simp [execOp, Act.eval, d158]
                    | 2, ho =>
                      obtain rfl := Option.some.inj ho
                      have d15 : bx.tmps.getD 15 undef = .pointer (some ⟨X + 1, 0, none⟩) := hS.base 15 (by kernel_rfl)
                      have gd : bx.tmps.getD 159 undef = .bool true := hS.dep 1 159 (by kernel_rfl) (by kernel_rfl)
                      have hl := (HD.out.on (hbel (by kernel_rfl))).cellN
                      refine .inl ⟨wanted_yes (j := 1) (t := 159) (c := true) (by kernel_rfl) (by kernel_rfl) gd, ends_value (c := .int .i64 0) ?_⟩
                      simp [Act.eval, d15, go_sem, hl]
                    | 3, ho =>
                      obtain rfl := Option.some.inj ho
                      have d160 : bx.tmps.getD 160 undef = .int .i64 0 := hS.dep 2 160 (by kernel_rfl) (by kernel_rfl)
                      have gd : bx.tmps.getD 159 undef = .bool true := hS.dep 1 159 (by kernel_rfl) (by kernel_rfl)
                      refine .inl ⟨wanted_yes (j := 1) (t := 159) (c := true) (by kernel_rfl) (by kernel_rfl) gd, ends_value (c := .bool true) ?_⟩
                      simp [Act.eval, d160, go_sem]
                    | 4, ho =>
                      obtain rfl := Option.some.inj ho
                      have d159 : bx.tmps.getD 159 undef = .bool true := hS.dep 1 159 (by kernel_rfl) (by kernel_rfl)
                      have d161 : bx.tmps.getD 161 undef = .bool true := hS.dep 3 161 (by kernel_rfl) (by kernel_rfl)
                      refine .inl ⟨rfl, ends_value (c := .bool true) ?_⟩
                      simp [Act.eval, d159, d161, go_sem]
                    | 5, ho =>
                      obtain rfl := Option.some.inj ho
                      have d162 : bx.tmps.getD 162 undef = .bool true := hS.dep 4 162 (by kernel_rfl) (by kernel_rfl)
                      refine .inl ⟨rfl, ends_value (c := .bool true) ?_⟩
                      simp [execOp, Act.eval, d162]
                    | 6, ho =>
                      obtain rfl := Option.some.inj ho
                      have d16 : bx.tmps.getD 16 undef = .pointer (some ⟨X + 2, 0, none⟩) := hS.base 16 (by kernel_rfl)
                      have gd : bx.tmps.getD 163 undef = .bool true := hS.dep 5 163 (by kernel_rfl) (by kernel_rfl)
                      have hl := (HD.out.on (hbel (by kernel_rfl))).cellA
                      refine .inl ⟨wanted_yes (j := 5) (t := 163) (c := true) (by kernel_rfl) (by kernel_rfl) gd, ends_value (c := .int .i64 (A : Int)) ?_⟩
                      simp [Act.eval, d16, go_sem, hl]
                    | 7, ho =>
                      obtain rfl := Option.some.inj ho
                      have d6 : bx.tmps.getD 6 undef = .pointer (some ⟨b.p, 0, none⟩) := hS.base 6 (by kernel_rfl)
                      have gd : bx.tmps.getD 163 undef = .bool true := hS.dep 5 163 (by kernel_rfl) (by kernel_rfl)
                      refine .inl ⟨wanted_yes (j := 5) (t := 163) (c := true) (by kernel_rfl) (by kernel_rfl) gd, ends_value (c := .pointer (some ⟨b.p, 0, none⟩)) ?_⟩
                      simp [execOp, Act.eval, d6]
                    | 8, ho =>
                      obtain rfl := Option.some.inj ho
                      have d165 : bx.tmps.getD 165 undef = .pointer (some ⟨b.p, 0, none⟩) := hS.dep 7 165 (by kernel_rfl) (by kernel_rfl)
                      have gd : bx.tmps.getD 163 undef = .bool true := hS.dep 5 163 (by kernel_rfl) (by kernel_rfl)
                      refine .inl ⟨wanted_yes (j := 5) (t := 163) (c := true) (by kernel_rfl) (by kernel_rfl) gd, ends_call (c := .int .i64 (A : Int)) (by kernel_rfl) (f := 12) (args := #[.pointer (some ⟨b.p, 0, none⟩)]) ?_ ((HD.out.on (hbel (by kernel_rfl))).active HA.out)⟩
                      simp [Act.eval, d165, go_sem]
                    | 9, ho =>
                      obtain rfl := Option.some.inj ho
                      have d164 : bx.tmps.getD 164 undef = .int .i64 (A : Int) := hS.dep 6 164 (by kernel_rfl) (by kernel_rfl)
                      have d166 : bx.tmps.getD 166 undef = .int .i64 (A : Int) := hS.dep 8 166 (by kernel_rfl) (by kernel_rfl)
                      have gd : bx.tmps.getD 163 undef = .bool true := hS.dep 5 163 (by kernel_rfl) (by kernel_rfl)
                      refine .inl ⟨wanted_yes (j := 5) (t := 163) (c := true) (by kernel_rfl) (by kernel_rfl) gd, ends_value (c := .bool true) ?_⟩
                      simp [Act.eval, d164, d166, go_sem]
                    | 10, ho =>
                      obtain rfl := Option.some.inj ho
                      have d163 : bx.tmps.getD 163 undef = .bool true := hS.dep 5 163 (by kernel_rfl) (by kernel_rfl)
                      have d167 : bx.tmps.getD 167 undef = .bool true := hS.dep 9 167 (by kernel_rfl) (by kernel_rfl)
                      refine .inl ⟨rfl, ends_value (c := .bool true) ?_⟩
                      simp [Act.eval, d163, d167, go_sem]
                    | 11, ho =>
                      obtain rfl := Option.some.inj ho
                      have d168 : bx.tmps.getD 168 undef = .bool true := hS.dep 10 168 (by kernel_rfl) (by kernel_rfl)
                      refine .inl ⟨rfl, ends_value (c := .bool true) ?_⟩
                      simp [execOp, Act.eval, d168]
                    | 12, ho =>
                      obtain rfl := Option.some.inj ho
                      have d21 : bx.tmps.getD 21 undef = .bool false := hS.base 21 (by kernel_rfl)
                      have gd : bx.tmps.getD 169 undef = .bool true := hS.dep 11 169 (by kernel_rfl) (by kernel_rfl)
                      refine .inl ⟨wanted_yes (j := 11) (t := 169) (c := true) (by kernel_rfl) (by kernel_rfl) gd, ends_value (c := .bool false) ?_⟩
                      simp [execOp, Act.eval, d21]
                    | 13, ho =>
                      obtain rfl := Option.some.inj ho
                      have d16 : bx.tmps.getD 16 undef = .pointer (some ⟨X + 2, 0, none⟩) := hS.base 16 (by kernel_rfl)
                      have gd : bx.tmps.getD 169 undef = .bool true := hS.dep 11 169 (by kernel_rfl) (by kernel_rfl)
                      have hl := (HD.out.on (hbel (by kernel_rfl))).cellA
                      refine .inl ⟨wanted_yes (j := 11) (t := 169) (c := true) (by kernel_rfl) (by kernel_rfl) gd, ends_value (c := .int .i64 (A : Int)) ?_⟩
                      simp [Act.eval, d16, go_sem, hl]
                    | 14, ho =>
                      obtain rfl := Option.some.inj ho
                      have d171 : bx.tmps.getD 171 undef = .int .i64 (A : Int) := hS.dep 13 171 (by kernel_rfl) (by kernel_rfl)
                      have gd : bx.tmps.getD 169 undef = .bool true := hS.dep 11 169 (by kernel_rfl) (by kernel_rfl)
                      refine .inl ⟨wanted_yes (j := 11) (t := 169) (c := true) (by kernel_rfl) (by kernel_rfl) gd, ends_value (c := .bool true) ?_⟩
                      simp [Act.eval, d171, go_sem, hA2]
                    | 15, ho =>
                      obtain rfl := Option.some.inj ho
                      have d172 : bx.tmps.getD 172 undef = .bool true := hS.dep 14 172 (by kernel_rfl) (by kernel_rfl)
                      have gd : bx.tmps.getD 169 undef = .bool true := hS.dep 11 169 (by kernel_rfl) (by kernel_rfl)
                      refine .inl ⟨wanted_yes (j := 11) (t := 169) (c := true) (by kernel_rfl) (by kernel_rfl) gd, ends_value (c := .bool true) ?_⟩
                      simp [execOp, Act.eval, d172]
                    | 16, ho =>
                      obtain rfl := Option.some.inj ho
                      have d1 : bx.tmps.getD 1 undef = .int .i64 port := hS.base 1 (by kernel_rfl)
                      have gd : bx.tmps.getD 173 undef = .bool true := hS.dep 15 173 (by kernel_rfl) (by kernel_rfl)
                      refine .inl ⟨wanted_yes (j := 15) (t := 173) (c := true) (by kernel_rfl) (by kernel_rfl) gd, ends_value (c := .int .i64 port) ?_⟩
                      simp [execOp, Act.eval, d1]
                    | 17, ho =>
                      obtain rfl := Option.some.inj ho
                      have d174 : bx.tmps.getD 174 undef = .int .i64 port := hS.dep 16 174 (by kernel_rfl) (by kernel_rfl)
                      have gd : bx.tmps.getD 173 undef = .bool true := hS.dep 15 173 (by kernel_rfl) (by kernel_rfl)
                      refine .inl ⟨wanted_yes (j := 15) (t := 173) (c := true) (by kernel_rfl) (by kernel_rfl) gd, ends_value (c := .bool false) ?_⟩
                      simp [Act.eval, d174, go_sem, hp1]
                    | 18, ho =>
                      obtain rfl := Option.some.inj ho
                      have d173 : bx.tmps.getD 173 undef = .bool true := hS.dep 15 173 (by kernel_rfl) (by kernel_rfl)
                      have d175 : bx.tmps.getD 175 undef = .bool false := hS.dep 17 175 (by kernel_rfl) (by kernel_rfl)
                      have gd : bx.tmps.getD 169 undef = .bool true := hS.dep 11 169 (by kernel_rfl) (by kernel_rfl)
                      refine .inl ⟨wanted_yes (j := 11) (t := 169) (c := true) (by kernel_rfl) (by kernel_rfl) gd, ends_value (c := .bool false) ?_⟩
                      simp [Act.eval, d173, d175, go_sem]
                    | 19, ho =>
                      obtain rfl := Option.some.inj ho
                      have d176 : bx.tmps.getD 176 undef = .bool false := hS.dep 18 176 (by kernel_rfl) (by kernel_rfl)
                      have gd : bx.tmps.getD 169 undef = .bool true := hS.dep 11 169 (by kernel_rfl) (by kernel_rfl)
                      refine .inl ⟨wanted_yes (j := 11) (t := 169) (c := true) (by kernel_rfl) (by kernel_rfl) gd, ends_value (c := .bool false) ?_⟩
                      simp [execOp, Act.eval, d176]
                    | 20, ho =>
                      obtain rfl := Option.some.inj ho
                      have gd : bx.tmps.getD 177 undef = .bool false := hS.dep 19 177 (by kernel_rfl) (by kernel_rfl)
                      exact .inr ⟨wanted_no (j := 19) (t := 177) (c := true) (by kernel_rfl) (by kernel_rfl) gd, rfl⟩
                    | 21, ho =>
                      obtain rfl := Option.some.inj ho
                      have gd : bx.tmps.getD 177 undef = .bool false := hS.dep 19 177 (by kernel_rfl) (by kernel_rfl)
                      exact .inr ⟨wanted_no (j := 19) (t := 177) (c := true) (by kernel_rfl) (by kernel_rfl) gd, rfl⟩
                    | 22, ho =>
                      obtain rfl := Option.some.inj ho
                      have d177 : bx.tmps.getD 177 undef = .bool false := hS.dep 19 177 (by kernel_rfl) (by kernel_rfl)
                      have d179 : bx.tmps.getD 179 undef = undef := hS.dep 21 179 (by kernel_rfl) (by kernel_rfl)
                      have gd : bx.tmps.getD 169 undef = .bool true := hS.dep 11 169 (by kernel_rfl) (by kernel_rfl)
                      refine .inl ⟨wanted_yes (j := 11) (t := 169) (c := true) (by kernel_rfl) (by kernel_rfl) gd, ends_value (c := .bool false) ?_⟩
                      simp [Act.eval, d177, d179, go_sem]
                    | 23, ho =>
                      obtain rfl := Option.some.inj ho
                      have d170 : bx.tmps.getD 170 undef = .bool false := hS.dep 12 170 (by kernel_rfl) (by kernel_rfl)
                      have d180 : bx.tmps.getD 180 undef = .bool false := hS.dep 22 180 (by kernel_rfl) (by kernel_rfl)
                      have gd : bx.tmps.getD 169 undef = .bool true := hS.dep 11 169 (by kernel_rfl) (by kernel_rfl)
                      refine .inl ⟨wanted_yes (j := 11) (t := 169) (c := true) (by kernel_rfl) (by kernel_rfl) gd, ends_value (c := .bool true) ?_⟩
                      simp [Act.eval, d170, d180, go_sem]
                    | 24, ho =>
                      obtain rfl := Option.some.inj ho
                      have d169 : bx.tmps.getD 169 undef = .bool true := hS.dep 11 169 (by kernel_rfl) (by kernel_rfl)
                      have d181 : bx.tmps.getD 181 undef = .bool true := hS.dep 23 181 (by kernel_rfl) (by kernel_rfl)
                      refine .inl ⟨rfl, ends_value (c := .bool true) ?_⟩
                      simp [Act.eval, d169, d181, go_sem]
                    | 25, _ => exact absurd rfl hne
                    | n + 26, ho => exact absurd ho (by simp)
                  case store =>
                    intro o bx u ho hbel hS
                    obtain rfl := Option.some.inj ho
                    have d4 : bx.tmps.getD 4 undef = .pointer (some ⟨w.heap.size, 0, none⟩) := hS.base 4 (by kernel_rfl)
                    have d182 : bx.tmps.getD 182 undef = .bool true := hS.dep 24 182 (by kernel_rfl) (by kernel_rfl)
                    have ry := (HD.out.on hbel).res.cell 0 _ rfl
                    have ryf := (HD.out.on hbel).res.free 0
                    refine ⟨rfl, ?_⟩
                    simp [Act.eval, d4, d182, go_sem, ry, ryf]
                  case fin =>
                    intro u hbel
                    simp [putAll, dstAt, Act.put]
                    have HF : Shut _ := ⟨(HD.out.on hbel).fin true⟩
                    clear HD hbel
                    go_wp2_with fail
                    refine ⟨by simp, .inl ⟨_, _, rfl, run_takeDeferred HF.out.1, ?_⟩⟩
                    exact ⟨_, results_cell rfl _ _ _ _ rfl (HF.out.2.1 _), rfl, HF.out.2.2 _⟩
      · have hi1 : ¬ (i : Int) < len := by omega
        have hi3 : decide ((i : Int) < len) = false := by simp; omega
        clear hlt
        obtain ⟨f, hCn⟩ := cn_start HT.out
        have HC0 : Shut _ := ⟨hCn⟩
        have HX0 : Shut (w.heap.size < wr.heap.size) := ⟨hCn.lY⟩
        clear hCn HT
        go_wp2_with fail
        refine (qall_any _ _).mono ?_
        rintro e zz ⟨rfl, rfl⟩
        obtain ⟨V0, hV0⟩ : ∃ V0, (((wr.alloc (.cells #[.int .i64 0] 3)).alloc (.cells #[.int .i64 0] 3)).alloc (.cells #[.int .i64 0] 3)).alloc (.cells #[.pointer (some ⟨b.p, 0, none⟩)] 24) = V0 := ⟨_, rfl⟩
        have hsz : V0.heap.size = wr.heap.size + 4 := by rw [← hV0]; simp
        have hZc : V0.cell? ⟨wr.heap.size + 3, 0, none⟩ = some (.pointer (some ⟨b.p, 0, none⟩)) := by rw [← hV0]; simp [go_sem]
        have h3 := HC0.out.keep (W' := V0) (by
          have e := alloc_on (((wr.alloc (.cells #[.int .i64 0] 3)).alloc (.cells #[.int .i64 0] 3)).alloc (.cells #[.int .i64 0] 3)) (.cells #[.pointer (some ⟨b.p, 0, none⟩)] 24)
          rw [hV0] at e
          simpa using e)
        obtain ⟨X, hX⟩ : ∃ X, wr.heap.size = X := ⟨_, rfl⟩
        rw [hX] at hsz hZc h3
        have HX : Shut (w.heap.size < X) := ⟨hX ▸ HX0.out⟩
        clear HC0 HX0
        have hbp : b.p < X := h3.lts _ (by simp [qfeet])
        have hbm : b.m < X := h3.lts _ (by simp [qfeet])
        have H3 : Shut _ := ⟨h3⟩
        go_wp2_with fail
        simp only [Nat.add_assoc, Nat.reduceAdd]
        refine wp_all1 17 18 (b := b) (L := p.L) (B := X + 3) rfl h3.lw.inv.ids h3.lw.inv.idr h3.lw.inv.len hZc h3.st.run.at_.lk (fun k => k ≠ X ∧ k ≠ X + 1 ∧ k ≠ X + 2) (fun k hk => by omega) (by omega) (by omega) (by omega)
          (fun k W => Cn w w1.heap.size W b u p M C i f X (Po.lastId p.L k : Nat) (k : Nat) (Po.actTo p.L k : Nat)) (fun _ _ _ => False)
          (fun k W W' h hb => h.keep (hb.mono (by omega))) (fun _ _ _ _ h _ => h)
          h3 ?assign ?body ?done (fun _ _ _ h _ => h.elim)
        case assign =>
          intro l k W K hK
          simp only [varAct, allAct] at hK ⊢
          gi_wp2
          simpa using hK
        case body =>
          rintro l k xx W hk h4 hxx hrow
          obtain ⟨m, hm⟩ : ∃ m, p.L[k]? = some m := ⟨_, List.getElem?_eq_getElem hk⟩
          have hgd : p.L.getD k noMem = m := by rw [List.getD_eq_getElem?_getD, hm]; rfl
          have hmem : m ∈ p.L := List.mem_of_getElem? hm
          have hid := h3.lw.inv.idr m hmem
          have hst : Po.stOf p (m.id : Int) = m.st := Po.stOf_mem h3.lw.inv.ids hmem
          have hlast := Po.last_lt h3.lw.inv.ids h3.lw.inv.idr hm
          have hact := Po.act_succ hm
          have hactl := Po.act_le p.L k
          have hlen := h3.lw.inv.len
          have hl : (Instr.lookup 61 (.map (some M)) (.int .i64 (m.id : Int)) false).run Try.prog W = .ok (.int .i64 (m.st : Int)) W := by
            have := h4.look (id := (m.id : Int)) (by omega)
            rwa [hst] at this
          rw [hgd] at hrow
          have hm2 : m.st = 1 ∨ m.st = 2 := by
            have h1 := Po.stOf_le h3.lw.inv (m.id : Int)
            have h2 := Po.stOf_there h3.lw.inv (m.id : Int)
            have h5 : Po.there p.L (m.id : Int) = true := (Po.there_iff h3.lw.inv.ids _).2 ⟨m, hmem, rfl⟩
            rw [h5] at h2
            have h6 : Po.stOf p (m.id : Int) ≠ 0 := of_decide_eq_true h2.symm
            omega
          have cX := h4.r0.cell 0 _ rfl
          have gX := h4.r0.free 0
          have cC := h4.st.cell.cell 0 _ rfl
          have c17 := hrow.cell 0 _ rfl
          obtain ⟨ak, hak⟩ : ∃ ak, Po.actTo p.L k = ak := ⟨_, rfl⟩
          obtain ⟨la, hla⟩ : ∃ la, Po.lastId p.L k = la := ⟨_, rfl⟩
          rw [hla] at cX hlast
          have hle : ¬ (m.id : Int) ≤ (la : Int) := by omega
          have hle2 : ¬ m.id ≤ la := by omega
          have hb1 : (m.id : Int) ≤ 65535 := by omega
          have hb2 : (k : Int) ≤ 1000000 := by omega
          have hb3 : (ak : Int) ≤ 1000000 := by omega
          obtain ⟨W1, hW1⟩ : ∃ W1, W.setCell ⟨X, 0, none⟩ (.int .i64 (m.id : Int)) = W1 := ⟨_, rfl⟩
          have h5 : Cn w w1.heap.size W1 b u p M C i f X (m.id : Int) (k : Nat) (ak : Nat) := hW1 ▸ hak ▸ h4.set0 (m.id : Int)
          have cN := h5.r1.cell 0 _ rfl
          have gN := h5.r1.free 0
          have k1 : Keeps (fun k => k ≠ X ∧ k ≠ X + 1 ∧ k ≠ X + 2) W W1 := hW1 ▸ (Keeps.refl _ _).setCell (p := ⟨X, 0, none⟩) (by simp) _
          obtain ⟨W2, hW2⟩ : ∃ W2, W1.setCell ⟨X + 1, 0, none⟩ (.int .i64 ((k : Int) + 1)) = W2 := ⟨_, rfl⟩
          have h6 : Cn w w1.heap.size W2 b u p M C i f X (m.id : Int) ((k + 1 : Nat) : Int) (ak : Nat) := hW2 ▸ h5.set1 ((k : Int) + 1)
          have cA := h6.r2.cell 0 _ rfl
          have gA := h6.r2.free 0
          have k2 : Keeps (fun k => k ≠ X ∧ k ≠ X + 1 ∧ k ≠ X + 2) W W2 := hW2 ▸ k1.setCell (p := ⟨X + 1, 0, none⟩) (by simp) _
          have hlid : Po.lastId p.L (k + 1) = m.id := by show (p.L.getD k noMem).id = _; rw [hgd]
          rcases hm2 with hm2 | hm2
          · rw [hm2] at hl hact
            obtain ⟨W3, hW3⟩ : ∃ W3, W2.setCell ⟨X + 2, 0, none⟩ (.int .i64 ((ak : Int) + 1)) = W3 := ⟨_, rfl⟩
            have h7 : Cn w w1.heap.size W3 b u p M C i f X (m.id : Int) ((k + 1 : Nat) : Int) ((ak + 1 : Nat) : Int) := hW3 ▸ h6.set2 ((ak : Int) + 1)
            have k3 : Keeps (fun k => k ≠ X ∧ k ≠ X + 1 ∧ k ≠ X + 2) W W3 := hW3 ▸ k2.setCell (p := ⟨X + 2, 0, none⟩) (by simp) _
            rw [hak, if_pos rfl] at hact
            rw [← hlid, ← hact] at h7
            have H : Shut _ := ⟨(⟨k3, h7⟩ : _ ∧ _)⟩
            have hl : (Instr.lookup 61 (.map (some M)) (.int .i64 (m.id : Int)) false).run Try.prog W = .ok (.int .i64 1) W := hl
            simp only [varAct, allAct, hgd, hm2]
            clear h3 h4 h5 h6 h7 k1 k2 k3 hlid hact hrow hla hak hm hgd hmem hst hactl hlen hlast
            gi_wp2
            exact H.out
          · rw [hm2] at hl hact
            rw [hak, if_neg (by decide)] at hact
            rw [← hlid, show (ak : Int) = ((ak + 0 : Nat) : Int) from rfl, ← hact] at h6
            have H : Shut _ := ⟨(⟨k2, h6⟩ : _ ∧ _)⟩
            have hl : (Instr.lookup 61 (.map (some M)) (.int .i64 (m.id : Int)) false).run Try.prog W = .ok (.int .i64 2) W := hl
            simp only [varAct, allAct, hgd, hm2]
            clear h3 h4 h5 h6 k1 k2 hlid hact hrow hla hak hm hgd hmem hst hactl hlen hlast cA gA
            gi_wp2
            exact H.out
        case done =>
          rintro W h4 hK
          rw [Po.act_all] at h4
          rw [hsz] at hK ⊢
          obtain ⟨A, hA⟩ : ∃ A, Po.active p.L = A := ⟨_, rfl⟩
          rw [hA] at h4
          have HA : Shut (Po.active p.L = A) := ⟨hA⟩
          have HLw : Shut _ := ⟨h3.lw⟩
          have HR0 : Shut (Rs w w1.heap.size W b u p M C i f X (Po.left p.L 1) (A : Int)) := ⟨⟨⟨_, (left_one p.L).symm ▸ h4⟩, hK⟩⟩
          have hAb : (A : Int) ≤ 1000 := by have := h3.lw.act; omega
          clear h3 h4 hK hA hZc H3
          go_wp2_with fail
          go_loopw [19] (fun t W => ∃ j : Nat, t = .int .i64 (j : Int) ∧ 1 ≤ j ∧ j ≤ 21 ∧ Shut (Rs w w1.heap.size W b u p M C i f X (Po.left p.L j) (A : Int))) (fun t _ => 21 - (intOf t).toNat)
          case atStart => exact ⟨1, rfl, Nat.le_refl _, by omega, HR0⟩
          case round =>
            obtain ⟨j, rfl, hj1, hj2, HR⟩ := hrel
            clear HR0
            by_cases hj3 : j ≤ 20
            · have hj4 : (j : Int) ≤ 20 := by omega
              have hb := left_bounds HLw.out (j := j) (by omega)
              have hn := left_succ HLw.out hj1
              obtain ⟨l, h5⟩ := HR.out.cn
              obtain ⟨nn, hnn⟩ : ∃ nn, Po.left p.L j = nn := ⟨_, rfl⟩
              have hl := h5.look (id := (j : Int)) (by omega)
              have cN := h5.r1.cell 0 _ rfl
              have gN := h5.r1.free 0
              have cC := h5.st.cell.cell 0 _ rfl
              rw [hnn] at cN hb hn
              have hs3 : Po.stOf p (j : Int) = 0 ∨ Po.stOf p (j : Int) = 1 ∨ Po.stOf p (j : Int) = 2 := by have := Po.stOf_le HLw.out.inv (j : Int); omega
              have hb1 := hb.1
              have hb2 := hb.2
              clear h5 hb
              rcases hs3 with hs | hs | hs
              · rw [hs] at hl hn
                have hl : (Instr.lookup 61 (.map (some M)) (.int .i64 (j : Int)) false).run Try.prog wr = .ok (.int .i64 0) wr := hl
                have hR := HR.out
                rw [hnn, show nn = Po.left p.L (j + 1) by rw [hn, if_neg (by decide)]; omega] at hR
                have HR2 : Shut _ := ⟨hR⟩
                clear hR hn hnn hs HR
                go_wp2_with fail
                go_roundw
                case rel => exact ⟨j + 1, by go_num, by omega, by omega, HR2⟩
                case measure => simp [intOf]; omega
              · rw [hs] at hl hn
                have hl : (Instr.lookup 61 (.map (some M)) (.int .i64 (j : Int)) false).run Try.prog wr = .ok (.int .i64 1) wr := hl
                have hR := HR.out.set1 (nn - 1)
                have hR : Rs w w1.heap.size (wr.setCell ⟨X + 1, 0, none⟩ (.int .i64 (nn - 1))) b u p M C i f X (Po.left p.L (j + 1)) (A : Int) := by rw [hn, if_pos (by decide)]; exact hR
                have HR2 : Shut _ := ⟨hR⟩
                clear hR hn hnn hs HR
                go_wp2_with fail
                go_roundw
                case rel => exact ⟨j + 1, by go_num, by omega, by omega, HR2⟩
                case measure => simp [intOf]; omega
              · rw [hs] at hl hn
                have hl : (Instr.lookup 61 (.map (some M)) (.int .i64 (j : Int)) false).run Try.prog wr = .ok (.int .i64 2) wr := hl
                have hR := HR.out.set1 (nn - 1)
                have hR : Rs w w1.heap.size (wr.setCell ⟨X + 1, 0, none⟩ (.int .i64 (nn - 1))) b u p M C i f X (Po.left p.L (j + 1)) (A : Int) := by rw [hn, if_pos (by decide)]; exact hR
                have HR2 : Shut _ := ⟨hR⟩
                clear hR hn hnn hs HR
                go_wp2_with fail
                go_roundw
                case rel => exact ⟨j + 1, by go_num, by omega, by omega, HR2⟩
                case measure => simp [intOf]; omega
            · have hj4 : ¬ (j : Int) ≤ 20 := by omega
              have e0 := left_end HLw.out (j := j) (by omega)
              have hR := HR.out
              rw [e0] at hR
              have HR1 : Shut _ := ⟨hR⟩
              obtain ⟨l, h5⟩ := hR.cn
              obtain ⟨ok, hok⟩ : ∃ ok : Bool, (decide (0 < A) && decide (0 ≤ port ∧ port ≤ 65535)) = ok := ⟨_, rfl⟩
              obtain ⟨y1, y2, y3, hP⟩ := Po.pick_port p key0 port ok (by rw [HA.out]; exact hok)
              have hc := h5.st.run.pick ⟨6, 0, 0, port, 0⟩ ⟨⟨Int.le_refl 0, (by decide : (0 : Int) ≤ 4294967295)⟩, ⟨Int.le_refl 0, (by decide : (0 : Int) ≤ 4294967295)⟩⟩
              rw [hP] at hc
              have hC : Hid (Calls Try.prog 16 #[.pointer (some ⟨b.p, 0, none⟩), .agg #[.int .i64 6, .int .u32 0, .int .u32 0, .int .i64 port, .int .i64 0]] wr fun e w' => e = .returned (.tuple #[.agg #[.int .i64 (y1 : Int), .int .u32 (y2 : Int), .int .i64 (y3 : Int)], .bool ok]) ∧ Below wr.heap.size wr w') := hc
              have HOk : Shut _ := ⟨hok⟩
              have HJ : Shut (j = 21) := ⟨by omega⟩
              clear hc hP hok h5 hR HR e0 hj1 hj2 hj3
              go_wp2_with fail
              refine (unhide hC).mono ?_
              rintro e w6 ⟨rfl, hb6⟩
              have hR6 := (HR1.out.on hb6).on (alloc_on w6 (.cells #[.int .i64 (y1 : Int), .int .u32 (y2 : Int), .int .i64 (y3 : Int)] 33))
              have HR6 : Shut _ := ⟨hR6⟩
              clear hC hb6 hR6 HR1
              go_wp2_with fail
              obtain ⟨w7, hw7⟩ : ∃ w7, w6.alloc (.cells #[.int .i64 (y1 : Int), .int .u32 (y2 : Int), .int .i64 (y3 : Int)] 33) = w7 := ⟨_, rfl⟩
              rw [hw7] at HR6 ⊢
              have HD : Shut _ := ⟨HR6.out.drew⟩
              clear hw7 HR6
              by_cases hA1 : A = 0
              · obtain rfl : ok = false := by rw [← HOk.out, hA1]; rfl
                refine wp_region_grow_store (by kernel_rfl) [.bool true, .bool true, .int .i64 0, .bool true, .bool true, .bool true, .int .i64 (A : Int), .pointer (some ⟨b.p, 0, none⟩), .int .i64 (A : Int), .bool true, .bool true, .bool true, .bool false, .int .i64 (A : Int), .bool false, .bool false, undef, undef, .bool false, .bool false, undef, undef, .bool false, .bool true, .bool true, undef] 25 (fun v => v.setCell ⟨w.heap.size, 0, none⟩ (.bool true)) (by kernel_rfl) (by decide) rfl ?op ?store ?fin
                case op =>
                  intro i o bx u ho hne hbel hS
                  match i, ho with
                  | 0, ho =>
                    obtain rfl := Option.some.inj ho
                    have d5 : bx.tmps.getD 5 undef = .bool true := hS.base 5 (by kernel_rfl)
                    refine .inl ⟨rfl, ends_value (c := .bool true) ?_⟩
                    simp [execOp, Act.eval, d5]
                  | 1, ho =>
                    obtain rfl := Option.some.inj ho
                    have d158 : bx.tmps.getD 158 undef = .bool true := hS.dep 0 158 (by kernel_rfl) (by kernel_rfl)
                    refine .inl ⟨rfl, ends_value (c := .bool true) ?_⟩
                    simp [execOp, Act.eval, d158]
                  | 2, ho =>
                    obtain rfl := Option.some.inj ho
                    have d15 : bx.tmps.getD 15 undef = .pointer (some ⟨X + 1, 0, none⟩) := hS.base 15 (by kernel_rfl)
                    have gd : bx.tmps.getD 159 undef = .bool true := hS.dep 1 159 (by kernel_rfl) (by kernel_rfl)
                    have hl := (HD.out.on (hbel (by kernel_rfl))).cellN
                    refine .inl ⟨wanted_yes (j := 1) (t := 159) (c := true) (by kernel_rfl) (by kernel_rfl) gd, ends_value (c := .int .i64 0) ?_⟩
                    simp [Act.eval, d15, go_sem, hl]
                  | 3, ho =>
                    obtain rfl := Option.some.inj ho
                    have d160 : bx.tmps.getD 160 undef = .int .i64 0 := hS.dep 2 160 (by kernel_rfl) (by kernel_rfl)
                    have gd : bx.tmps.getD 159 undef = .bool true := hS.dep 1 159 (by kernel_rfl) (by kernel_rfl)
                    refine .inl ⟨wanted_yes (j := 1) (t := 159) (c := true) (by kernel_rfl) (by kernel_rfl) gd, ends_value (c := .bool true) ?_⟩
                    simp [Act.eval, d160, go_sem]
                  | 4, ho =>
                    obtain rfl := Option.some.inj ho
                    have d159 : bx.tmps.getD 159 undef = .bool true := hS.dep 1 159 (by kernel_rfl) (by kernel_rfl)
                    have d161 : bx.tmps.getD 161 undef = .bool true := hS.dep 3 161 (by kernel_rfl) (by kernel_rfl)
                    refine .inl ⟨rfl, ends_value (c := .bool true) ?_⟩
                    simp [Act.eval, d159, d161, go_sem]
                  | 5, ho =>
                    obtain rfl := Option.some.inj ho
                    have d162 : bx.tmps.getD 162 undef = .bool true := hS.dep 4 162 (by kernel_rfl) (by kernel_rfl)
                    refine .inl ⟨rfl, ends_value (c := .bool true) ?_⟩
                    simp [execOp, Act.eval, d162]
                  | 6, ho =>
                    obtain rfl := Option.some.inj ho
                    have d16 : bx.tmps.getD 16 undef = .pointer (some ⟨X + 2, 0, none⟩) := hS.base 16 (by kernel_rfl)
                    have gd : bx.tmps.getD 163 undef = .bool true := hS.dep 5 163 (by kernel_rfl) (by kernel_rfl)
                    have hl := (HD.out.on (hbel (by kernel_rfl))).cellA
                    refine .inl ⟨wanted_yes (j := 5) (t := 163) (c := true) (by kernel_rfl) (by kernel_rfl) gd, ends_value (c := .int .i64 (A : Int)) ?_⟩
                    simp [Act.eval, d16, go_sem, hl]
                  | 7, ho =>
                    obtain rfl := Option.some.inj ho
                    have d6 : bx.tmps.getD 6 undef = .pointer (some ⟨b.p, 0, none⟩) := hS.base 6 (by kernel_rfl)
                    have gd : bx.tmps.getD 163 undef = .bool true := hS.dep 5 163 (by kernel_rfl) (by kernel_rfl)
                    refine .inl ⟨wanted_yes (j := 5) (t := 163) (c := true) (by kernel_rfl) (by kernel_rfl) gd, ends_value (c := .pointer (some ⟨b.p, 0, none⟩)) ?_⟩
                    simp [execOp, Act.eval, d6]
                  | 8, ho =>
                    obtain rfl := Option.some.inj ho
                    have d165 : bx.tmps.getD 165 undef = .pointer (some ⟨b.p, 0, none⟩) := hS.dep 7 165 (by kernel_rfl) (by kernel_rfl)
                    have gd : bx.tmps.getD 163 undef = .bool true := hS.dep 5 163 (by kernel_rfl) (by kernel_rfl)
                    refine .inl ⟨wanted_yes (j := 5) (t := 163) (c := true) (by kernel_rfl) (by kernel_rfl) gd, ends_call (c := .int .i64 (A : Int)) (by kernel_rfl) (f := 12) (args := #[.pointer (some ⟨b.p, 0, none⟩)]) ?_ ((HD.out.on (hbel (by kernel_rfl))).active HA.out)⟩
                    simp [Act.eval, d165, go_sem]
                  | 9, ho =>
                    obtain rfl := Option.some.inj ho
                    have d164 : bx.tmps.getD 164 undef = .int .i64 (A : Int) := hS.dep 6 164 (by kernel_rfl) (by kernel_rfl)
                    have d166 : bx.tmps.getD 166 undef = .int .i64 (A : Int) := hS.dep 8 166 (by kernel_rfl) (by kernel_rfl)
                    have gd : bx.tmps.getD 163 undef = .bool true := hS.dep 5 163 (by kernel_rfl) (by kernel_rfl)
                    refine .inl ⟨wanted_yes (j := 5) (t := 163) (c := true) (by kernel_rfl) (by kernel_rfl) gd, ends_value (c := .bool true) ?_⟩
                    simp [Act.eval, d164, d166, go_sem]
                  | 10, ho =>
                    obtain rfl := Option.some.inj ho
                    have d163 : bx.tmps.getD 163 undef = .bool true := hS.dep 5 163 (by kernel_rfl) (by kernel_rfl)
                    have d167 : bx.tmps.getD 167 undef = .bool true := hS.dep 9 167 (by kernel_rfl) (by kernel_rfl)
                    refine .inl ⟨rfl, ends_value (c := .bool true) ?_⟩
                    simp [Act.eval, d163, d167, go_sem]
                  | 11, ho =>
                    obtain rfl := Option.some.inj ho
                    have d168 : bx.tmps.getD 168 undef = .bool true := hS.dep 10 168 (by kernel_rfl) (by kernel_rfl)
                    refine .inl ⟨rfl, ends_value (c := .bool true) ?_⟩
                    simp [execOp, Act.eval, d168]
                  | 12, ho =>
                    obtain rfl := Option.some.inj ho
                    have d21 : bx.tmps.getD 21 undef = .bool false := hS.base 21 (by kernel_rfl)
                    have gd : bx.tmps.getD 169 undef = .bool true := hS.dep 11 169 (by kernel_rfl) (by kernel_rfl)
                    refine .inl ⟨wanted_yes (j := 11) (t := 169) (c := true) (by kernel_rfl) (by kernel_rfl) gd, ends_value (c := .bool false) ?_⟩
                    simp [execOp, Act.eval, d21]
                  | 13, ho =>
                    obtain rfl := Option.some.inj ho
                    have d16 : bx.tmps.getD 16 undef = .pointer (some ⟨X + 2, 0, none⟩) := hS.base 16 (by kernel_rfl)
                    have gd : bx.tmps.getD 169 undef = .bool true := hS.dep 11 169 (by kernel_rfl) (by kernel_rfl)
                    have hl := (HD.out.on (hbel (by kernel_rfl))).cellA
                    refine .inl ⟨wanted_yes (j := 11) (t := 169) (c := true) (by kernel_rfl) (by kernel_rfl) gd, ends_value (c := .int .i64 (A : Int)) ?_⟩
                    simp [Act.eval, d16, go_sem, hl]
                  | 14, ho =>
                    obtain rfl := Option.some.inj ho
                    have d171 : bx.tmps.getD 171 undef = .int .i64 (A : Int) := hS.dep 13 171 (by kernel_rfl) (by kernel_rfl)
                    have gd : bx.tmps.getD 169 undef = .bool true := hS.dep 11 169 (by kernel_rfl) (by kernel_rfl)
                    refine .inl ⟨wanted_yes (j := 11) (t := 169) (c := true) (by kernel_rfl) (by kernel_rfl) gd, ends_value (c := .bool false) ?_⟩
                    simp [Act.eval, d171, go_sem, hA1]
                  | 15, ho =>
                    obtain rfl := Option.some.inj ho
                    have d172 : bx.tmps.getD 172 undef = .bool false := hS.dep 14 172 (by kernel_rfl) (by kernel_rfl)
                    have gd : bx.tmps.getD 169 undef = .bool true := hS.dep 11 169 (by kernel_rfl) (by kernel_rfl)
                    refine .inl ⟨wanted_yes (j := 11) (t := 169) (c := true) (by kernel_rfl) (by kernel_rfl) gd, ends_value (c := .bool false) ?_⟩
                    simp [execOp, Act.eval, d172]
                  | 16, ho =>
                    obtain rfl := Option.some.inj ho
                    have gd : bx.tmps.getD 173 undef = .bool false := hS.dep 15 173 (by kernel_rfl) (by kernel_rfl)
                    exact .inr ⟨wanted_no (j := 15) (t := 173) (c := true) (by kernel_rfl) (by kernel_rfl) gd, rfl⟩
                  | 17, ho =>
                    obtain rfl := Option.some.inj ho
                    have gd : bx.tmps.getD 173 undef = .bool false := hS.dep 15 173 (by kernel_rfl) (by kernel_rfl)
                    exact .inr ⟨wanted_no (j := 15) (t := 173) (c := true) (by kernel_rfl) (by kernel_rfl) gd, rfl⟩
                  | 18, ho =>
                    obtain rfl := Option.some.inj ho
                    have d173 : bx.tmps.getD 173 undef = .bool false := hS.dep 15 173 (by kernel_rfl) (by kernel_rfl)
                    have d175 : bx.tmps.getD 175 undef = undef := hS.dep 17 175 (by kernel_rfl) (by kernel_rfl)
                    have gd : bx.tmps.getD 169 undef = .bool true := hS.dep 11 169 (by kernel_rfl) (by kernel_rfl)
                    refine .inl ⟨wanted_yes (j := 11) (t := 169) (c := true) (by kernel_rfl) (by kernel_rfl) gd, ends_value (c := .bool false) ?_⟩
                    simp [Act.eval, d173, d175, go_sem]
                  | 19, ho =>
                    obtain rfl := Option.some.inj ho
                    have d176 : bx.tmps.getD 176 undef = .bool false := hS.dep 18 176 (by kernel_rfl) (by kernel_rfl)
                    have gd : bx.tmps.getD 169 undef = .bool true := hS.dep 11 169 (by kernel_rfl) (by kernel_rfl)
                    refine .inl ⟨wanted_yes (j := 11) (t := 169) (c := true) (by kernel_rfl) (by kernel_rfl) gd, ends_value (c := .bool false) ?_⟩
                    simp [execOp, Act.eval, d176]
                  | 20, ho =>
                    obtain rfl := Option.some.inj ho
                    have gd : bx.tmps.getD 177 undef = .bool false := hS.dep 19 177 (by kernel_rfl) (by kernel_rfl)
                    exact .inr ⟨wanted_no (j := 19) (t := 177) (c := true) (by kernel_rfl) (by kernel_rfl) gd, rfl⟩
                  | 21, ho =>
                    obtain rfl := Option.some.inj ho
                    have gd : bx.tmps.getD 177 undef = .bool false := hS.dep 19 177 (by kernel_rfl) (by kernel_rfl)
                    exact .inr ⟨wanted_no (j := 19) (t := 177) (c := true) (by kernel_rfl) (by kernel_rfl) gd, rfl⟩
                  | 22, ho =>
                    obtain rfl := Option.some.inj ho
                    have d177 : bx.tmps.getD 177 undef = .bool false := hS.dep 19 177 (by kernel_rfl) (by kernel_rfl)
                    have d179 : bx.tmps.getD 179 undef = undef := hS.dep 21 179 (by kernel_rfl) (by kernel_rfl)
                    have gd : bx.tmps.getD 169 undef = .bool true := hS.dep 11 169 (by kernel_rfl) (by kernel_rfl)
                    refine .inl ⟨wanted_yes (j := 11) (t := 169) (c := true) (by kernel_rfl) (by kernel_rfl) gd, ends_value (c := .bool false) ?_⟩
                    simp [Act.eval, d177, d179, go_sem]
                  | 23, ho =>
                    obtain rfl := Option.some.inj ho
                    have d170 : bx.tmps.getD 170 undef = .bool false := hS.dep 12 170 (by kernel_rfl) (by kernel_rfl)
                    have d180 : bx.tmps.getD 180 undef = .bool false := hS.dep 22 180 (by kernel_rfl) (by kernel_rfl)
                    have gd : bx.tmps.getD 169 undef = .bool true := hS.dep 11 169 (by kernel_rfl) (by kernel_rfl)
                    refine .inl ⟨wanted_yes (j := 11) (t := 169) (c := true) (by kernel_rfl) (by kernel_rfl) gd, ends_value (c := .bool true) ?_⟩
                    simp [Act.eval, d170, d180, go_sem]
                  | 24, ho =>
                    obtain rfl := Option.some.inj ho
                    have d169 : bx.tmps.getD 169 undef = .bool true := hS.dep 11 169 (by kernel_rfl) (by kernel_rfl)
                    have d181 : bx.tmps.getD 181 undef = .bool true := hS.dep 23 181 (by kernel_rfl) (by kernel_rfl)
                    refine .inl ⟨rfl, ends_value (c := .bool true) ?_⟩
                    simp [Act.eval, d169, d181, go_sem]
                  | 25, _ => exact absurd rfl hne
                  | n + 26, ho => exact absurd ho (by simp)
                case store =>
                  intro o bx u ho hbel hS
                  obtain rfl := Option.some.inj ho
                  have d4 : bx.tmps.getD 4 undef = .pointer (some ⟨w.heap.size, 0, none⟩) := hS.base 4 (by kernel_rfl)
                  have d182 : bx.tmps.getD 182 undef = .bool true := hS.dep 24 182 (by kernel_rfl) (by kernel_rfl)
                  have ry := (HD.out.on hbel).res.cell 0 _ rfl
                  have ryf := (HD.out.on hbel).res.free 0
                  refine ⟨rfl, ?_⟩
                  simp [Act.eval, d4, d182, go_sem, ry, ryf]
                case fin =>
                  intro u hbel
                  simp [putAll, dstAt, Act.put]
                  have HF : Shut _ := ⟨(HD.out.on hbel).fin true⟩
                  clear HD hbel
                  go_wp2_with fail
                  refine ⟨by simp, .inl ⟨_, _, rfl, run_takeDeferred HF.out.1, ?_⟩⟩
                  exact ⟨_, results_cell rfl _ _ _ _ rfl (HF.out.2.1 _), rfl, HF.out.2.2 _⟩
              · have hA2 : 0 < A := by omega
                by_cases hp1 : 0 ≤ port
                · by_cases hp2 : port ≤ 65535
                  · obtain rfl : ok = true := by rw [← HOk.out, decide_eq_true hA2, decide_eq_true ⟨hp1, hp2⟩]; rfl
                    refine wp_region_grow_store (by kernel_rfl) [.bool true, .bool true, .int .i64 0, .bool true, .bool true, .bool true, .int .i64 (A : Int), .pointer (some ⟨b.p, 0, none⟩), .int .i64 (A : Int), .bool true, .bool true, .bool true, .bool true, .int .i64 (A : Int), .bool true, .bool true, .int .i64 port, .bool true, .bool true, .bool true, .int .i64 port, .bool true, .bool true, .bool true, .bool true, undef] 25 (fun v => v.setCell ⟨w.heap.size, 0, none⟩ (.bool true)) (by kernel_rfl) (by decide) rfl ?op ?store ?fin
                    case op =>
                      intro i o bx u ho hne hbel hS
                      match i, ho with
                      | 0, ho =>
                        obtain rfl := Option.some.inj ho
                        have d5 : bx.tmps.getD 5 undef = .bool true := hS.base 5 (by kernel_rfl)
                        refine .inl ⟨rfl, ends_value (c := .bool true) ?_⟩
                        simp [execOp, Act.eval, d5]
                      | 1, ho =>
                        obtain rfl := Option.some.inj ho
                        have d158 : bx.tmps.getD 158 undef = .bool true := hS.dep 0 158 (by kernel_rfl) (by kernel_rfl)
                        refine .inl ⟨rfl, ends_value (c := .bool true) ?_⟩
                        simp [execOp, Act.eval, d158]
                      | 2, ho =>
                        obtain rfl := Option.some.inj ho
                        have d15 : bx.tmps.getD 15 undef = .pointer (some ⟨X + 1, 0, none⟩) := hS.base 15 (by kernel_rfl)
                        have gd : bx.tmps.getD 159 undef = .bool true := hS.dep 1 159 (by kernel_rfl) (by kernel_rfl)
                        have hl := (HD.out.on (hbel (by kernel_rfl))).cellN
                        refine .inl ⟨wanted_yes (j := 1) (t := 159) (c := true) (by kernel_rfl) (by kernel_rfl) gd, ends_value (c := .int .i64 0) ?_⟩
                        simp [Act.eval, d15, go_sem, hl]
                      | 3, ho =>
                        obtain rfl := Option.some.inj ho
                        have d160 : bx.tmps.getD 160 undef = .int .i64 0 := hS.dep 2 160 (by kernel_rfl) (by kernel_rfl)
                        have gd : bx.tmps.getD 159 undef = .bool true := hS.dep 1 159 (by kernel_rfl) (by kernel_rfl)
                        refine .inl ⟨wanted_yes (j := 1) (t := 159) (c := true) (by kernel_rfl) (by kernel_rfl) gd, ends_value (c := .bool true) ?_⟩
                        simp [Act.eval, d160, go_sem]
                      | 4, ho =>
                        obtain rfl := Option.some.inj ho
                        have d159 : bx.tmps.getD 159 undef = .bool true := hS.dep 1 159 (by kernel_rfl) (by kernel_rfl)
                        have d161 : bx.tmps.getD 161 undef = .bool true := hS.dep 3 161 (by kernel_rfl) (by kernel_rfl)
                        refine .inl ⟨rfl, ends_value (c := .bool true) ?_⟩
                        simp [Act.eval, d159, d161, go_sem]
                      | 5, ho =>
                        obtain rfl := Option.some.inj ho
                        have d162 : bx.tmps.getD 162 undef = .bool true := hS.dep 4 162 (by kernel_rfl) (by kernel_rfl)
                        refine .inl ⟨rfl, ends_value (c := .bool true) ?_⟩
                        simp [execOp, Act.eval, d162]
                      | 6, ho =>
                        obtain rfl := Option.some.inj ho
                        have d16 : bx.tmps.getD 16 undef = .pointer (some ⟨X + 2, 0, none⟩) := hS.base 16 (by kernel_rfl)
                        have gd : bx.tmps.getD 163 undef = .bool true := hS.dep 5 163 (by kernel_rfl) (by kernel_rfl)
                        have hl := (HD.out.on (hbel (by kernel_rfl))).cellA
                        refine .inl ⟨wanted_yes (j := 5) (t := 163) (c := true) (by kernel_rfl) (by kernel_rfl) gd, ends_value (c := .int .i64 (A : Int)) ?_⟩
                        simp [Act.eval, d16, go_sem, hl]
                      | 7, ho =>
                        obtain rfl := Option.some.inj ho
                        have d6 : bx.tmps.getD 6 undef = .pointer (some ⟨b.p, 0, none⟩) := hS.base 6 (by kernel_rfl)
                        have gd : bx.tmps.getD 163 undef = .bool true := hS.dep 5 163 (by kernel_rfl) (by kernel_rfl)
                        refine .inl ⟨wanted_yes (j := 5) (t := 163) (c := true) (by kernel_rfl) (by kernel_rfl) gd, ends_value (c := .pointer (some ⟨b.p, 0, none⟩)) ?_⟩
                        simp [execOp, Act.eval, d6]
                      | 8, ho =>
                        obtain rfl := Option.some.inj ho
                        have d165 : bx.tmps.getD 165 undef = .pointer (some ⟨b.p, 0, none⟩) := hS.dep 7 165 (by kernel_rfl) (by kernel_rfl)
                        have gd : bx.tmps.getD 163 undef = .bool true := hS.dep 5 163 (by kernel_rfl) (by kernel_rfl)
                        refine .inl ⟨wanted_yes (j := 5) (t := 163) (c := true) (by kernel_rfl) (by kernel_rfl) gd, ends_call (c := .int .i64 (A : Int)) (by kernel_rfl) (f := 12) (args := #[.pointer (some ⟨b.p, 0, none⟩)]) ?_ ((HD.out.on (hbel (by kernel_rfl))).active HA.out)⟩
                        simp [Act.eval, d165, go_sem]
                      | 9, ho =>
                        obtain rfl := Option.some.inj ho
                        have d164 : bx.tmps.getD 164 undef = .int .i64 (A : Int) := hS.dep 6 164 (by kernel_rfl) (by kernel_rfl)
                        have d166 : bx.tmps.getD 166 undef = .int .i64 (A : Int) := hS.dep 8 166 (by kernel_rfl) (by kernel_rfl)
                        have gd : bx.tmps.getD 163 undef = .bool true := hS.dep 5 163 (by kernel_rfl) (by kernel_rfl)
                        refine .inl ⟨wanted_yes (j := 5) (t := 163) (c := true) (by kernel_rfl) (by kernel_rfl) gd, ends_value (c := .bool true) ?_⟩
                        simp [Act.eval, d164, d166, go_sem]
                      | 10, ho =>
                        obtain rfl := Option.some.inj ho
                        have d163 : bx.tmps.getD 163 undef = .bool true := hS.dep 5 163 (by kernel_rfl) (by kernel_rfl)
                        have d167 : bx.tmps.getD 167 undef = .bool true := hS.dep 9 167 (by kernel_rfl) (by kernel_rfl)
                        refine .inl ⟨rfl, ends_value (c := .bool true) ?_⟩
                        simp [Act.eval, d163, d167, go_sem]
                      | 11, ho =>
                        obtain rfl := Option.some.inj ho
                        have d168 : bx.tmps.getD 168 undef = .bool true := hS.dep 10 168 (by kernel_rfl) (by kernel_rfl)
                        refine .inl ⟨rfl, ends_value (c := .bool true) ?_⟩
                        simp [execOp, Act.eval, d168]
                      | 12, ho =>
                        obtain rfl := Option.some.inj ho
                        have d21 : bx.tmps.getD 21 undef = .bool true := hS.base 21 (by kernel_rfl)
                        have gd : bx.tmps.getD 169 undef = .bool true := hS.dep 11 169 (by kernel_rfl) (by kernel_rfl)
                        refine .inl ⟨wanted_yes (j := 11) (t := 169) (c := true) (by kernel_rfl) (by kernel_rfl) gd, ends_value (c := .bool true) ?_⟩
                        simp [execOp, Act.eval, d21]
                      | 13, ho =>
                        obtain rfl := Option.some.inj ho
                        have d16 : bx.tmps.getD 16 undef = .pointer (some ⟨X + 2, 0, none⟩) := hS.base 16 (by kernel_rfl)
                        have gd : bx.tmps.getD 169 undef = .bool true := hS.dep 11 169 (by kernel_rfl) (by kernel_rfl)
                        have hl := (HD.out.on (hbel (by kernel_rfl))).cellA
                        refine .inl ⟨wanted_yes (j := 11) (t := 169) (c := true) (by kernel_rfl) (by kernel_rfl) gd, ends_value (c := .int .i64 (A : Int)) ?_⟩
                        simp [Act.eval, d16, go_sem, hl]
                      | 14, ho =>
                        obtain rfl := Option.some.inj ho
                        have d171 : bx.tmps.getD 171 undef = .int .i64 (A : Int) := hS.dep 13 171 (by kernel_rfl) (by kernel_rfl)
                        have gd : bx.tmps.getD 169 undef = .bool true := hS.dep 11 169 (by kernel_rfl) (by kernel_rfl)
                        refine .inl ⟨wanted_yes (j := 11) (t := 169) (c := true) (by kernel_rfl) (by kernel_rfl) gd, ends_value (c := .bool true) ?_⟩
                        simp [Act.eval, d171, go_sem, hA2]
                      | 15, ho =>
                        obtain rfl := Option.some.inj ho
                        have d172 : bx.tmps.getD 172 undef = .bool true := hS.dep 14 172 (by kernel_rfl) (by kernel_rfl)
                        have gd : bx.tmps.getD 169 undef = .bool true := hS.dep 11 169 (by kernel_rfl) (by kernel_rfl)
                        refine .inl ⟨wanted_yes (j := 11) (t := 169) (c := true) (by kernel_rfl) (by kernel_rfl) gd, ends_value (c := .bool true) ?_⟩
                        simp [execOp, Act.eval, d172]
                      | 16, ho =>
                        obtain rfl := Option.some.inj ho
                        have d1 : bx.tmps.getD 1 undef = .int .i64 port := hS.base 1 (by kernel_rfl)
                        have gd : bx.tmps.getD 173 undef = .bool true := hS.dep 15 173 (by kernel_rfl) (by kernel_rfl)
                        refine .inl ⟨wanted_yes (j := 15) (t := 173) (c := true) (by kernel_rfl) (by kernel_rfl) gd, ends_value (c := .int .i64 port) ?_⟩
                        simp [execOp, Act.eval, d1]
                      | 17, ho =>
                        obtain rfl := Option.some.inj ho
                        have d174 : bx.tmps.getD 174 undef = .int .i64 port := hS.dep 16 174 (by kernel_rfl) (by kernel_rfl)
                        have gd : bx.tmps.getD 173 undef = .bool true := hS.dep 15 173 (by kernel_rfl) (by kernel_rfl)
                        refine .inl ⟨wanted_yes (j := 15) (t := 173) (c := true) (by kernel_rfl) (by kernel_rfl) gd, ends_value (c := .bool true) ?_⟩
                        simp [Act.eval, d174, go_sem, hp1]
                      | 18, ho =>
                        obtain rfl := Option.some.inj ho
                        have d173 : bx.tmps.getD 173 undef = .bool true := hS.dep 15 173 (by kernel_rfl) (by kernel_rfl)
                        have d175 : bx.tmps.getD 175 undef = .bool true := hS.dep 17 175 (by kernel_rfl) (by kernel_rfl)
                        have gd : bx.tmps.getD 169 undef = .bool true := hS.dep 11 169 (by kernel_rfl) (by kernel_rfl)
                        refine .inl ⟨wanted_yes (j := 11) (t := 169) (c := true) (by kernel_rfl) (by kernel_rfl) gd, ends_value (c := .bool true) ?_⟩
                        simp [Act.eval, d173, d175, go_sem]
                      | 19, ho =>
                        obtain rfl := Option.some.inj ho
                        have d176 : bx.tmps.getD 176 undef = .bool true := hS.dep 18 176 (by kernel_rfl) (by kernel_rfl)
                        have gd : bx.tmps.getD 169 undef = .bool true := hS.dep 11 169 (by kernel_rfl) (by kernel_rfl)
                        refine .inl ⟨wanted_yes (j := 11) (t := 169) (c := true) (by kernel_rfl) (by kernel_rfl) gd, ends_value (c := .bool true) ?_⟩
                        simp [execOp, Act.eval, d176]
                      | 20, ho =>
                        obtain rfl := Option.some.inj ho
                        have d1 : bx.tmps.getD 1 undef = .int .i64 port := hS.base 1 (by kernel_rfl)
                        have gd : bx.tmps.getD 177 undef = .bool true := hS.dep 19 177 (by kernel_rfl) (by kernel_rfl)
                        refine .inl ⟨wanted_yes (j := 19) (t := 177) (c := true) (by kernel_rfl) (by kernel_rfl) gd, ends_value (c := .int .i64 port) ?_⟩
                        simp [execOp, Act.eval, d1]
                      | 21, ho =>
                        obtain rfl := Option.some.inj ho
                        have d178 : bx.tmps.getD 178 undef = .int .i64 port := hS.dep 20 178 (by kernel_rfl) (by kernel_rfl)
                        have gd : bx.tmps.getD 177 undef = .bool true := hS.dep 19 177 (by kernel_rfl) (by kernel_rfl)
                        refine .inl ⟨wanted_yes (j := 19) (t := 177) (c := true) (by kernel_rfl) (by kernel_rfl) gd, ends_value (c := .bool true) ?_⟩
                        simp [Act.eval, d178, go_sem, hp2]
                      | 22, ho =>
                        obtain rfl := Option.some.inj ho
                        have d177 : bx.tmps.getD 177 undef = .bool true := hS.dep 19 177 (by kernel_rfl) (by kernel_rfl)
                        have d179 : bx.tmps.getD 179 undef = .bool true := hS.dep 21 179 (by kernel_rfl) (by kernel_rfl)
                        have gd : bx.tmps.getD 169 undef = .bool true := hS.dep 11 169 (by kernel_rfl) (by kernel_rfl)
                        refine .inl ⟨wanted_yes (j := 11) (t := 169) (c := true) (by kernel_rfl) (by kernel_rfl) gd, ends_value (c := .bool true) ?_⟩
                        simp [Act.eval, d177, d179, go_sem]
                      | 23, ho =>
                        obtain rfl := Option.some.inj ho
                        have d170 : bx.tmps.getD 170 undef = .bool true := hS.dep 12 170 (by kernel_rfl) (by kernel_rfl)
                        have d180 : bx.tmps.getD 180 undef = .bool true := hS.dep 22 180 (by kernel_rfl) (by kernel_rfl)
                        have gd : bx.tmps.getD 169 undef = .bool true := hS.dep 11 169 (by kernel_rfl) (by kernel_rfl)
                        refine .inl ⟨wanted_yes (j := 11) (t := 169) (c := true) (by kernel_rfl) (by kernel_rfl) gd, ends_value (c := .bool true) ?_⟩
                        simp [Act.eval, d170, d180, go_sem]
                      | 24, ho =>
                        obtain rfl := Option.some.inj ho
                        have d169 : bx.tmps.getD 169 undef = .bool true := hS.dep 11 169 (by kernel_rfl) (by kernel_rfl)
                        have d181 : bx.tmps.getD 181 undef = .bool true := hS.dep 23 181 (by kernel_rfl) (by kernel_rfl)
                        refine .inl ⟨rfl, ends_value (c := .bool true) ?_⟩
                        simp [Act.eval, d169, d181, go_sem]
                      | 25, _ => exact absurd rfl hne
                      | n + 26, ho => exact absurd ho (by simp)
                    case store =>
                      intro o bx u ho hbel hS
                      obtain rfl := Option.some.inj ho
                      have d4 : bx.tmps.getD 4 undef = .pointer (some ⟨w.heap.size, 0, none⟩) := hS.base 4 (by kernel_rfl)
                      have d182 : bx.tmps.getD 182 undef = .bool true := hS.dep 24 182 (by kernel_rfl) (by kernel_rfl)
                      have ry := (HD.out.on hbel).res.cell 0 _ rfl
                      have ryf := (HD.out.on hbel).res.free 0
                      refine ⟨rfl, ?_⟩
                      simp [Act.eval, d4, d182, go_sem, ry, ryf]
                    case fin =>
                      intro u hbel
                      simp [putAll, dstAt, Act.put]
                      have HF : Shut _ := ⟨(HD.out.on hbel).fin true⟩
                      clear HD hbel
                      go_wp2_with fail
                      refine ⟨by simp, .inl ⟨_, _, rfl, run_takeDeferred HF.out.1, ?_⟩⟩
                      exact ⟨_, results_cell rfl _ _ _ _ rfl (HF.out.2.1 _), rfl, HF.out.2.2 _⟩
                  · have hp3 : 65535 < port := by omega
                    obtain rfl : ok = false := by rw [← HOk.out, decide_eq_true hA2, decide_eq_false (fun h => hp2 h.2)]; rfl
                    refine wp_region_grow_store (by kernel_rfl) [.bool true, .bool true, .int .i64 0, .bool true, .bool true, .bool true, .int .i64 (A : Int), .pointer (some ⟨b.p, 0, none⟩), .int .i64 (A : Int), .bool true, .bool true, .bool true, .bool false, .int .i64 (A : Int), .bool true, .bool true, .int .i64 port, .bool true, .bool true, .bool true, .int .i64 port, .bool false, .bool false, .bool true, .bool true, undef] 25 (fun v => v.setCell ⟨w.heap.size, 0, none⟩ (.bool true)) (by kernel_rfl) (by decide) rfl ?op ?store ?fin
                    case op =>
                      intro i o bx u ho hne hbel hS
                      match i, ho with
                      | 0, ho =>
                        obtain rfl := Option.some.inj ho
                        have d5 : bx.tmps.getD 5 undef = .bool true := hS.base 5 (by kernel_rfl)
                        refine .inl ⟨rfl, ends_value (c := .bool true) ?_⟩
                        simp [execOp, Act.eval, d5]
                      | 1, ho =>
                        obtain rfl := Option.some.inj ho
                        have d158 : bx.tmps.getD 158 undef = .bool true := hS.dep 0 158 (by kernel_rfl) (by kernel_rfl)
                        refine .inl ⟨rfl, ends_value (c := .bool true) ?_⟩
                        simp [execOp, Act.eval, d158]
                      | 2, ho =>
                        obtain rfl := Option.some.inj ho
                        have d15 : bx.tmps.getD 15 undef = .pointer (some ⟨X + 1, 0, none⟩) := hS.base 15 (by kernel_rfl)
                        have gd : bx.tmps.getD 159 undef = .bool true := hS.dep 1 159 (by kernel_rfl) (by kernel_rfl)
                        have hl := (HD.out.on (hbel (by kernel_rfl))).cellN
                        refine .inl ⟨wanted_yes (j := 1) (t := 159) (c := true) (by kernel_rfl) (by kernel_rfl) gd, ends_value (c := .int .i64 0) ?_⟩
                        simp [Act.eval, d15, go_sem, hl]
                      | 3, ho =>
                        obtain rfl := Option.some.inj ho
                        have d160 : bx.tmps.getD 160 undef = .int .i64 0 := hS.dep 2 160 (by kernel_rfl) (by kernel_rfl)
                        have gd : bx.tmps.getD 159 undef = .bool true := hS.dep 1 159 (by kernel_rfl) (by kernel_rfl)
                        refine .inl ⟨wanted_yes (j := 1) (t := 159) (c := true) (by kernel_rfl) (by kernel_rfl) gd, ends_value (c := .bool true) ?_⟩
                        simp [Act.eval, d160, go_sem]
                      | 4, ho =>
                        obtain rfl := Option.some.inj ho
                        have d159 : bx.tmps.getD 159 undef = .bool true := hS.dep 1 159 (by kernel_rfl) (by kernel_rfl)
                        have d161 : bx.tmps.getD 161 undef = .bool true := hS.dep 3 161 (by kernel_rfl) (by kernel_rfl)
                        refine .inl ⟨rfl, ends_value (c := .bool true) ?_⟩
                        simp [Act.eval, d159, d161, go_sem]
                      | 5, ho =>
                        obtain rfl := Option.some.inj ho
                        have d162 : bx.tmps.getD 162 undef = .bool true := hS.dep 4 162 (by kernel_rfl) (by kernel_rfl)
                        refine .inl ⟨rfl, ends_value (c := .bool true) ?_⟩
                        simp [execOp, Act.eval, d162]
                      | 6, ho =>
                        obtain rfl := Option.some.inj ho
                        have d16 : bx.tmps.getD 16 undef = .pointer (some ⟨X + 2, 0, none⟩) := hS.base 16 (by kernel_rfl)
                        have gd : bx.tmps.getD 163 undef = .bool true := hS.dep 5 163 (by kernel_rfl) (by kernel_rfl)
                        have hl := (HD.out.on (hbel (by kernel_rfl))).cellA
                        refine .inl ⟨wanted_yes (j := 5) (t := 163) (c := true) (by kernel_rfl) (by kernel_rfl) gd, ends_value (c := .int .i64 (A : Int)) ?_⟩
                        simp [Act.eval, d16, go_sem, hl]
                      | 7, ho =>
                        obtain rfl := Option.some.inj ho
                        have d6 : bx.tmps.getD 6 undef = .pointer (some ⟨b.p, 0, none⟩) := hS.base 6 (by kernel_rfl)
                        have gd : bx.tmps.getD 163 undef = .bool true := hS.dep 5 163 (by kernel_rfl) (by kernel_rfl)
                        refine .inl ⟨wanted_yes (j := 5) (t := 163) (c := true) (by kernel_rfl) (by kernel_rfl) gd, ends_value (c := .pointer (some ⟨b.p, 0, none⟩)) ?_⟩
                        simp [execOp, Act.eval, d6]
                      | 8, ho =>
                        obtain rfl := Option.some.inj ho
                        have d165 : bx.tmps.getD 165 undef = .pointer (some ⟨b.p, 0, none⟩) := hS.dep 7 165 (by kernel_rfl) (by kernel_rfl)
                        have gd : bx.tmps.getD 163 undef = .bool true := hS.dep 5 163 (by kernel_rfl) (by kernel_rfl)
                        refine .inl ⟨wanted_yes (j := 5) (t := 163) (c := true) (by kernel_rfl) (by kernel_rfl) gd, ends_call (c := .int .i64 (A : Int)) (by kernel_rfl) (f := 12) (args := #[.pointer (some ⟨b.p, 0, none⟩)]) ?_ ((HD.out.on (hbel (by kernel_rfl))).active HA.out)⟩
                        simp [Act.eval, d165, go_sem]
                      | 9, ho =>
                        obtain rfl := Option.some.inj ho
                        have d164 : bx.tmps.getD 164 undef = .int .i64 (A : Int) := hS.dep 6 164 (by kernel_rfl) (by kernel_rfl)
                        have d166 : bx.tmps.getD 166 undef = .int .i64 (A : Int) := hS.dep 8 166 (by kernel_rfl) (by kernel_rfl)
                        have gd : bx.tmps.getD 163 undef = .bool true := hS.dep 5 163 (by kernel_rfl) (by kernel_rfl)
                        refine .inl ⟨wanted_yes (j := 5) (t := 163) (c := true) (by kernel_rfl) (by kernel_rfl) gd, ends_value (c := .bool true) ?_⟩
                        simp [Act.eval, d164, d166, go_sem]
                      | 10, ho =>
                        obtain rfl := Option.some.inj ho
                        have d163 : bx.tmps.getD 163 undef = .bool true := hS.dep 5 163 (by kernel_rfl) (by kernel_rfl)
                        have d167 : bx.tmps.getD 167 undef = .bool true := hS.dep 9 167 (by kernel_rfl) (by kernel_rfl)
                        refine .inl ⟨rfl, ends_value (c := .bool true) ?_⟩
                        simp [Act.eval, d163, d167, go_sem]
                      | 11, ho =>
                        obtain rfl := Option.some.inj ho
                        have d168 : bx.tmps.getD 168 undef = .bool true := hS.dep 10 168 (by kernel_rfl) (by kernel_rfl)
                        refine .inl ⟨rfl, ends_value (c := .bool true) ?_⟩
                        simp [execOp, Act.eval, d168]
                      | 12, ho =>
                        obtain rfl := Option.some.inj ho
                        have d21 : bx.tmps.getD 21 undef = .bool false := hS.base 21 (by kernel_rfl)
                        have gd : bx.tmps.getD 169 undef = .bool true := hS.dep 11 169 (by kernel_rfl) (by kernel_rfl)
                        refine .inl ⟨wanted_yes (j := 11) (t := 169) (c := true) (by kernel_rfl) (by kernel_rfl) gd, ends_value (c := .bool false) ?_⟩
                        simp [execOp, Act.eval, d21]
                      | 13, ho =>
                        obtain rfl := Option.some.inj ho
                        have d16 : bx.tmps.getD 16 undef = .pointer (some ⟨X + 2, 0, none⟩) := hS.base 16 (by kernel_rfl)
                        have gd : bx.tmps.getD 169 undef = .bool true := hS.dep 11 169 (by kernel_rfl) (by kernel_rfl)
                        have hl := (HD.out.on (hbel (by kernel_rfl))).cellA
                        refine .inl ⟨wanted_yes (j := 11) (t := 169) (c := true) (by kernel_rfl) (by kernel_rfl) gd, ends_value (c := .int .i64 (A : Int)) ?_⟩
                        simp [Act.eval, d16, go_sem, hl]
                      | 14, ho =>
                        obtain rfl := Option.some.inj ho
                        have d171 : bx.tmps.getD 171 undef = .int .i64 (A : Int) := hS.dep 13 171 (by kernel_rfl) (by kernel_rfl)
                        have gd : bx.tmps.getD 169 undef = .bool true := hS.dep 11 169 (by kernel_rfl) (by kernel_rfl)
                        refine .inl ⟨wanted_yes (j := 11) (t := 169) (c := true) (by kernel_rfl) (by kernel_rfl) gd, ends_value (c := .bool true) ?_⟩
                        simp [Act.eval, d171, go_sem, hA2]
                      | 15, ho =>
                        obtain rfl := Option.some.inj ho
                        have d172 : bx.tmps.getD 172 undef = .bool true := hS.dep 14 172 (by kernel_rfl) (by kernel_rfl)
                        have gd : bx.tmps.getD 169 undef = .bool true := hS.dep 11 169 (by kernel_rfl) (by kernel_rfl)
                        refine .inl ⟨wanted_yes (j := 11) (t := 169) (c := true) (by kernel_rfl) (by kernel_rfl) gd, ends_value (c := .bool true) ?_⟩
                        simp [execOp, Act.eval, d172]
                      | 16, ho =>
                        obtain rfl := Option.some.inj ho
                        have d1 : bx.tmps.getD 1 undef = .int .i64 port := hS.base 1 (by kernel_rfl)
                        have gd : bx.tmps.getD 173 undef = .bool true := hS.dep 15 173 (by kernel_rfl) (by kernel_rfl)
                        refine .inl ⟨wanted_yes (j := 15) (t := 173) (c := true) (by kernel_rfl) (by kernel_rfl) gd, ends_value (c := .int .i64 port) ?_⟩
                        simp [execOp, Act.eval, d1]
                      | 17, ho =>
                        obtain rfl := Option.some.inj ho
                        have d174 : bx.tmps.getD 174 undef = .int .i64 port := hS.dep 16 174 (by kernel_rfl) (by kernel_rfl)
                        have gd : bx.tmps.getD 173 undef = .bool true := hS.dep 15 173 (by kernel_rfl) (by kernel_rfl)
                        refine .inl ⟨wanted_yes (j := 15) (t := 173) (c := true) (by kernel_rfl) (by kernel_rfl) gd, ends_value (c := .bool true) ?_⟩
                        simp [Act.eval, d174, go_sem, hp1]
                      | 18, ho =>
                        obtain rfl := Option.some.inj ho
                        have d173 : bx.tmps.getD 173 undef = .bool true := hS.dep 15 173 (by kernel_rfl) (by kernel_rfl)
                        have d175 : bx.tmps.getD 175 undef = .bool true := hS.dep 17 175 (by kernel_rfl) (by kernel_rfl)
                        have gd : bx.tmps.getD 169 undef = .bool true := hS.dep 11 169 (by kernel_rfl) (by kernel_rfl)
                        refine .inl ⟨wanted_yes (j := 11) (t := 169) (c := true) (by kernel_rfl) (by kernel_rfl) gd, ends_value (c := .bool true) ?_⟩
                        simp [Act.eval, d173, d175, go_sem]
                      | 19, ho =>
                        obtain rfl := Option.some.inj ho
                        have d176 : bx.tmps.getD 176 undef = .bool true := hS.dep 18 176 (by kernel_rfl) (by kernel_rfl)
                        have gd : bx.tmps.getD 169 undef = .bool true := hS.dep 11 169 (by kernel_rfl) (by kernel_rfl)
                        refine .inl ⟨wanted_yes (j := 11) (t := 169) (c := true) (by kernel_rfl) (by kernel_rfl) gd, ends_value (c := .bool true) ?_⟩
                        simp [execOp, Act.eval, d176]
                      | 20, ho =>
                        obtain rfl := Option.some.inj ho
                        have d1 : bx.tmps.getD 1 undef = .int .i64 port := hS.base 1 (by kernel_rfl)
                        have gd : bx.tmps.getD 177 undef = .bool true := hS.dep 19 177 (by kernel_rfl) (by kernel_rfl)
                        refine .inl ⟨wanted_yes (j := 19) (t := 177) (c := true) (by kernel_rfl) (by kernel_rfl) gd, ends_value (c := .int .i64 port) ?_⟩
                        simp [execOp, Act.eval, d1]
                      | 21, ho =>
                        obtain rfl := Option.some.inj ho
                        have d178 : bx.tmps.getD 178 undef = .int .i64 port := hS.dep 20 178 (by kernel_rfl) (by kernel_rfl)
                        have gd : bx.tmps.getD 177 undef = .bool true := hS.dep 19 177 (by kernel_rfl) (by kernel_rfl)
                        refine .inl ⟨wanted_yes (j := 19) (t := 177) (c := true) (by kernel_rfl) (by kernel_rfl) gd, ends_value (c := .bool false) ?_⟩
                        simp [Act.eval, d178, go_sem, hp2]
                      | 22, ho =>
                        obtain rfl := Option.some.inj ho
                        have d177 : bx.tmps.getD 177 undef = .bool true := hS.dep 19 177 (by kernel_rfl) (by kernel_rfl)
                        have d179 : bx.tmps.getD 179 undef = .bool false := hS.dep 21 179 (by kernel_rfl) (by kernel_rfl)
                        have gd : bx.tmps.getD 169 undef = .bool true := hS.dep 11 169 (by kernel_rfl) (by kernel_rfl)
                        refine .inl ⟨wanted_yes (j := 11) (t := 169) (c := true) (by kernel_rfl) (by kernel_rfl) gd, ends_value (c := .bool false) ?_⟩
                        simp [Act.eval, d177, d179, go_sem]
                      | 23, ho =>
                        obtain rfl := Option.some.inj ho
                        have d170 : bx.tmps.getD 170 undef = .bool false := hS.dep 12 170 (by kernel_rfl) (by kernel_rfl)
                        have d180 : bx.tmps.getD 180 undef = .bool false := hS.dep 22 180 (by kernel_rfl) (by kernel_rfl)
                        have gd : bx.tmps.getD 169 undef = .bool true := hS.dep 11 169 (by kernel_rfl) (by kernel_rfl)
                        refine .inl ⟨wanted_yes (j := 11) (t := 169) (c := true) (by kernel_rfl) (by kernel_rfl) gd, ends_value (c := .bool true) ?_⟩
                        simp [Act.eval, d170, d180, go_sem]
                      | 24, ho =>
                        obtain rfl := Option.some.inj ho
                        have d169 : bx.tmps.getD 169 undef = .bool true := hS.dep 11 169 (by kernel_rfl) (by kernel_rfl)
                        have d181 : bx.tmps.getD 181 undef = .bool true := hS.dep 23 181 (by kernel_rfl) (by kernel_rfl)
                        refine .inl ⟨rfl, ends_value (c := .bool true) ?_⟩
                        simp [Act.eval, d169, d181, go_sem]
                      | 25, _ => exact absurd rfl hne
                      | n + 26, ho => exact absurd ho (by simp)
                    case store =>
                      intro o bx u ho hbel hS
                      obtain rfl := Option.some.inj ho
                      have d4 : bx.tmps.getD 4 undef = .pointer (some ⟨w.heap.size, 0, none⟩) := hS.base 4 (by kernel_rfl)
                      have d182 : bx.tmps.getD 182 undef = .bool true := hS.dep 24 182 (by kernel_rfl) (by kernel_rfl)
                      have ry := (HD.out.on hbel).res.cell 0 _ rfl
                      have ryf := (HD.out.on hbel).res.free 0
                      refine ⟨rfl, ?_⟩
                      simp [Act.eval, d4, d182, go_sem, ry, ryf]
                    case fin =>
                      intro u hbel
                      simp [putAll, dstAt, Act.put]
                      have HF : Shut _ := ⟨(HD.out.on hbel).fin true⟩
                      clear HD hbel
                      go_wp2_with fail
                      refine ⟨by simp, .inl ⟨_, _, rfl, run_takeDeferred HF.out.1, ?_⟩⟩
                      exact ⟨_, results_cell rfl _ _ _ _ rfl (HF.out.2.1 _), rfl, HF.out.2.2 _⟩
                · have hp3 : port < 0 := by omega
                  obtain rfl : ok = false := by rw [← HOk.out, decide_eq_true hA2, decide_eq_false (fun h => hp1 h.1)]; rfl
                  refine wp_region_grow_store (by kernel_rfl) [.bool true, .bool true, .int .i64 0, .bool true, .bool true, .bool true, .int .i64 (A : Int), .pointer (some ⟨b.p, 0, none⟩), .int .i64 (A : Int), .bool true, .bool true, .bool true, .bool false, .int .i64 (A : Int), .bool true, .bool true, .int .i64 port, .bool false, .bool false, .bool false, undef, undef, .bool false, .bool true, .bool true, undef] 25 (fun v => v.setCell ⟨w.heap.size, 0, none⟩ (.bool true)) (by kernel_rfl) (by decide) rfl ?op ?store ?fin
                  case op =>
                    intro i o bx u ho hne hbel hS
                    match i, ho with
                    | 0, ho =>
                      obtain rfl := Option.some.inj ho
                      have d5 : bx.tmps.getD 5 undef = .bool true := hS.base 5 (by kernel_rfl)
                      refine .inl ⟨rfl, ends_value (c := .bool true) ?_⟩
                      simp [execOp, Act.eval, d5]
                    | 1, ho =>
                      obtain rfl := Option.some.inj ho
                      have d158 : bx.tmps.getD 158 undef = .bool true := hS.dep 0 158 (by kernel_rfl) (by kernel_rfl)
                      refine .inl ⟨rfl, ends_value (c := .bool true) ?_⟩
                      simp [execOp, Act.eval, d158]
                    | 2, ho =>
                      obtain rfl := Option.some.inj ho
                      have d15 : bx.tmps.getD 15 undef = .pointer (some ⟨X + 1, 0, none⟩) := hS.base 15 (by kernel_rfl)
                      have gd : bx.tmps.getD 159 undef = .bool true := hS.dep 1 159 (by kernel_rfl) (by kernel_rfl)
                      have hl := (HD.out.on (hbel (by kernel_rfl))).cellN
                      refine .inl ⟨wanted_yes (j := 1) (t := 159) (c := true) (by kernel_rfl) (by kernel_rfl) gd, ends_value (c := .int .i64 0) ?_⟩
                      simp [Act.eval, d15, go_sem, hl]
                    | 3, ho =>
                      obtain rfl := Option.some.inj ho
                      have d160 : bx.tmps.getD 160 undef = .int .i64 0 := hS.dep 2 160 (by kernel_rfl) (by kernel_rfl)
                      have gd : bx.tmps.getD 159 undef = .bool true := hS.dep 1 159 (by kernel_rfl) (by kernel_rfl)
                      refine .inl ⟨wanted_yes (j := 1) (t := 159) (c := true) (by kernel_rfl) (by kernel_rfl) gd, ends_value (c := .bool true) ?_⟩
                      simp [Act.eval, d160, go_sem]
                    | 4, ho =>
                      obtain rfl := Option.some.inj ho
                      have d159 : bx.tmps.getD 159 undef = .bool true := hS.dep 1 159 (by kernel_rfl) (by kernel_rfl)
                      have d161 : bx.tmps.getD 161 undef = .bool true := hS.dep 3 161 (by kernel_rfl) (by kernel_rfl)
                      refine .inl ⟨rfl, ends_value (c := .bool true) ?_⟩
                      simp [Act.eval, d159, d161, go_sem]
                    | 5, ho =>
                      obtain rfl := Option.some.inj ho
                      have d162 : bx.tmps.getD 162 undef = .bool true := hS.dep 4 162 (by kernel_rfl) (by kernel_rfl)
                      refine .inl ⟨rfl, ends_value (c := .bool true) ?_⟩
                      simp [execOp, Act.eval, d162]
                    | 6, ho =>
                      obtain rfl := Option.some.inj ho
                      have d16 : bx.tmps.getD 16 undef = .pointer (some ⟨X + 2, 0, none⟩) := hS.base 16 (by kernel_rfl)
                      have gd : bx.tmps.getD 163 undef = .bool true := hS.dep 5 163 (by kernel_rfl) (by kernel_rfl)
                      have hl := (HD.out.on (hbel (by kernel_rfl))).cellA
                      refine .inl ⟨wanted_yes (j := 5) (t := 163) (c := true) (by kernel_rfl) (by kernel_rfl) gd, ends_value (c := .int .i64 (A : Int)) ?_⟩
                      simp [Act.eval, d16, go_sem, hl]
                    | 7, ho =>
                      obtain rfl := Option.some.inj ho
                      have d6 : bx.tmps.getD 6 undef = .pointer (some ⟨b.p, 0, none⟩) := hS.base 6 (by kernel_rfl)
                      have gd : bx.tmps.getD 163 undef = .bool true := hS.dep 5 163 (by kernel_rfl) (by kernel_rfl)
                      refine .inl ⟨wanted_yes (j := 5) (t := 163) (c := true) (by kernel_rfl) (by kernel_rfl) gd, ends_value (c := .pointer (some ⟨b.p, 0, none⟩)) ?_⟩
                      simp [execOp, Act.eval, d6]
                    | 8, ho =>
                      obtain rfl := Option.some.inj ho
                      have d165 : bx.tmps.getD 165 undef = .pointer (some ⟨b.p, 0, none⟩) := hS.dep 7 165 (by kernel_rfl) (by kernel_rfl)
                      have gd : bx.tmps.getD 163 undef = .bool true := hS.dep 5 163 (by kernel_rfl) (by kernel_rfl)
                      refine .inl ⟨wanted_yes (j := 5) (t := 163) (c := true) (by kernel_rfl) (by kernel_rfl) gd, ends_call (c := .int .i64 (A : Int)) (by kernel_rfl) (f := 12) (args := #[.pointer (some ⟨b.p, 0, none⟩)]) ?_ ((HD.out.on (hbel (by kernel_rfl))).active HA.out)⟩
                      simp [Act.eval, d165, go_sem]
                    | 9, ho =>
                      obtain rfl := Option.some.inj ho
                      have d164 : bx.tmps.getD 164 undef = .int .i64 (A : Int) := hS.dep 6 164 (by kernel_rfl) (by kernel_rfl)
                      have d166 : bx.tmps.getD 166 undef = .int .i64 (A : Int) := hS.dep 8 166 (by kernel_rfl) (by kernel_rfl)
                      have gd : bx.tmps.getD 163 undef = .bool true := hS.dep 5 163 (by kernel_rfl) (by kernel_rfl)
                      refine .inl ⟨wanted_yes (j := 5) (t := 163) (c := true) (by kernel_rfl) (by kernel_rfl) gd, ends_value (c := .bool true) ?_⟩
                      simp [Act.eval, d164, d166, go_sem]
                    | 10, ho =>
                      obtain rfl := Option.some.inj ho
                      have d163 : bx.tmps.getD 163 undef = .bool true := hS.dep 5 163 (by kernel_rfl) (by kernel_rfl)
                      have d167 : bx.tmps.getD 167 undef = .bool true := hS.dep 9 167 (by kernel_rfl) (by kernel_rfl)
                      refine .inl ⟨rfl, ends_value (c := .bool true) ?_⟩
                      simp [Act.eval, d163, d167, go_sem]
                    | 11, ho =>
                      obtain rfl := Option.some.inj ho
                      have d168 : bx.tmps.getD 168 undef = .bool true := hS.dep 10 168 (by kernel_rfl) (by kernel_rfl)
                      refine .inl ⟨rfl, ends_value (c := .bool true) ?_⟩
                      simp [execOp, Act.eval, d168]
                    | 12, ho =>
                      obtain rfl := Option.some.inj ho
                      have d21 : bx.tmps.getD 21 undef = .bool false := hS.base 21 (by kernel_rfl)
                      have gd : bx.tmps.getD 169 undef = .bool true := hS.dep 11 169 (by kernel_rfl) (by kernel_rfl)
                      refine .inl ⟨wanted_yes (j := 11) (t := 169) (c := true) (by kernel_rfl) (by kernel_rfl) gd, ends_value (c := .bool false) ?_⟩
                      simp [execOp, Act.eval, d21]
                    | 13, ho =>
                      obtain rfl := Option.some.inj ho
                      have d16 : bx.tmps.getD 16 undef = .pointer (some ⟨X + 2, 0, none⟩) := hS.base 16 (by kernel_rfl)
                      have gd : bx.tmps.getD 169 undef = .bool true := hS.dep 11 169 (by kernel_rfl) (by kernel_rfl)
                      have hl := (HD.out.on (hbel (by kernel_rfl))).cellA
                      refine .inl ⟨wanted_yes (j := 11) (t := 169) (c := true) (by kernel_rfl) (by kernel_rfl) gd, ends_value (c := .int .i64 (A : Int)) ?_⟩
                      simp [Act.eval, d16, go_sem, hl]
                    | 14, ho =>
                      obtain rfl := Option.some.inj ho
                      have d171 : bx.tmps.getD 171 undef = .int .i64 (A : Int) := hS.dep 13 171 (by kernel_rfl) (by kernel_rfl)
                      have gd : bx.tmps.getD 169 undef = .bool true := hS.dep 11 169 (by kernel_rfl) (by kernel_rfl)
                      refine .inl ⟨wanted_yes (j := 11) (t := 169) (c := true) (by kernel_rfl) (by kernel_rfl) gd, ends_value (c := .bool true) ?_⟩
                      simp [Act.eval, d171, go_sem, hA2]
                    | 15, ho =>
                      obtain rfl := Option.some.inj ho
                      have d172 : bx.tmps.getD 172 undef = .bool true := hS.dep 14 172 (by kernel_rfl) (by kernel_rfl)
                      have gd : bx.tmps.getD 169 undef = .bool true := hS.dep 11 169 (by kernel_rfl) (by kernel_rfl)
                      refine .inl ⟨wanted_yes (j := 11) (t := 169) (c := true) (by kernel_rfl) (by kernel_rfl) gd, ends_value (c := .bool true) ?_⟩
                      simp [execOp, Act.eval, d172]
                    | 16, ho =>
                      obtain rfl := Option.some.inj ho
                      have d1 : bx.tmps.getD 1 undef = .int .i64 port := hS.base 1 (by kernel_rfl)
                      have gd : bx.tmps.getD 173 undef = .bool true := hS.dep 15 173 (by kernel_rfl) (by kernel_rfl)
                      refine .inl ⟨wanted_yes (j := 15) (t := 173) (c := true) (by kernel_rfl) (by kernel_rfl) gd, ends_value (c := .int .i64 port) ?_⟩
                      simp [execOp, Act.eval, d1]
                    | 17, ho =>
                      obtain rfl := Option.some.inj ho
                      have d174 : bx.tmps.getD 174 undef = .int .i64 port := hS.dep 16 174 (by kernel_rfl) (by kernel_rfl)
                      have gd : bx.tmps.getD 173 undef = .bool true := hS.dep 15 173 (by kernel_rfl) (by kernel_rfl)
                      refine .inl ⟨wanted_yes (j := 15) (t := 173) (c := true) (by kernel_rfl) (by kernel_rfl) gd, ends_value (c := .bool false) ?_⟩
                      simp [Act.eval, d174, go_sem, hp1]
                    | 18, ho =>
                      obtain rfl := Option.some.inj ho
                      have d173 : bx.tmps.getD 173 undef = .bool true := hS.dep 15 173 (by kernel_rfl) (by kernel_rfl)
                      have d175 : bx.tmps.getD 175 undef = .bool false := hS.dep 17 175 (by kernel_rfl) (by kernel_rfl)
                      have gd : bx.tmps.getD 169 undef = .bool true := hS.dep 11 169 (by kernel_rfl) (by kernel_rfl)
                      refine .inl ⟨wanted_yes (j := 11) (t := 169) (c := true) (by kernel_rfl) (by kernel_rfl) gd, ends_value (c := .bool false) ?_⟩
                      simp [Act.eval, d173, d175, go_sem]
                    | 19, ho =>
                      obtain rfl := Option.some.inj ho
                      have d176 : bx.tmps.getD 176 undef = .bool false := hS.dep 18 176 (by kernel_rfl) (by kernel_rfl)
                      have gd : bx.tmps.getD 169 undef = .bool true := hS.dep 11 169 (by kernel_rfl) (by kernel_rfl)
                      refine .inl ⟨wanted_yes (j := 11) (t := 169) (c := true) (by kernel_rfl) (by kernel_rfl) gd, ends_value (c := .bool false) ?_⟩
                      simp [execOp, Act.eval, d176]
                    | 20, ho =>
                      obtain rfl := Option.some.inj ho
                      have gd : bx.tmps.getD 177 undef = .bool false := hS.dep 19 177 (by kernel_rfl) (by kernel_rfl)
                      exact .inr ⟨wanted_no (j := 19) (t := 177) (c := true) (by kernel_rfl) (by kernel_rfl) gd, rfl⟩
                    | 21, ho =>
                      obtain rfl := Option.some.inj ho
                      have gd : bx.tmps.getD 177 undef = .bool false := hS.dep 19 177 (by kernel_rfl) (by kernel_rfl)
                      exact .inr ⟨wanted_no (j := 19) (t := 177) (c := true) (by kernel_rfl) (by kernel_rfl) gd, rfl⟩
                    | 22, ho =>
                      obtain rfl := Option.some.inj ho
                      have d177 : bx.tmps.getD 177 undef = .bool false := hS.dep 19 177 (by kernel_rfl) (by kernel_rfl)
                      have d179 : bx.tmps.getD 179 undef = undef := hS.dep 21 179 (by kernel_rfl) (by kernel_rfl)
                      have gd : bx.tmps.getD 169 undef = .bool true := hS.dep 11 169 (by kernel_rfl) (by kernel_rfl)
                      refine .inl ⟨wanted_yes (j := 11) (t := 169) (c := true) (by kernel_rfl) (by kernel_rfl) gd, ends_value (c := .bool false) ?_⟩
                      simp [Act.eval, d177, d179, go_sem]
                    | 23, ho =>
                      obtain rfl := Option.some.inj ho
                      have d170 : bx.tmps.getD 170 undef = .bool false := hS.dep 12 170 (by kernel_rfl) (by kernel_rfl)
                      have d180 : bx.tmps.getD 180 undef = .bool false := hS.dep 22 180 (by kernel_rfl) (by kernel_rfl)
                      have gd : bx.tmps.getD 169 undef = .bool true := hS.dep 11 169 (by kernel_rfl) (by kernel_rfl)
                      refine .inl ⟨wanted_yes (j := 11) (t := 169) (c := true) (by kernel_rfl) (by kernel_rfl) gd, ends_value (c := .bool true) ?_⟩
                      simp [Act.eval, d170, d180, go_sem]
                    | 24, ho =>
                      obtain rfl := Option.some.inj ho
                      have d169 : bx.tmps.getD 169 undef = .bool true := hS.dep 11 169 (by kernel_rfl) (by kernel_rfl)
                      have d181 : bx.tmps.getD 181 undef = .bool true := hS.dep 23 181 (by kernel_rfl) (by kernel_rfl)
                      refine .inl ⟨rfl, ends_value (c := .bool true) ?_⟩
                      simp [Act.eval, d169, d181, go_sem]
                    | 25, _ => exact absurd rfl hne
                    | n + 26, ho => exact absurd ho (by simp)
                  case store =>
                    intro o bx u ho hbel hS
                    obtain rfl := Option.some.inj ho
                    have d4 : bx.tmps.getD 4 undef = .pointer (some ⟨w.heap.size, 0, none⟩) := hS.base 4 (by kernel_rfl)
                    have d182 : bx.tmps.getD 182 undef = .bool true := hS.dep 24 182 (by kernel_rfl) (by kernel_rfl)
                    have ry := (HD.out.on hbel).res.cell 0 _ rfl
                    have ryf := (HD.out.on hbel).res.free 0
                    refine ⟨rfl, ?_⟩
                    simp [Act.eval, d4, d182, go_sem, ry, ryf]
                  case fin =>
                    intro u hbel
                    simp [putAll, dstAt, Act.put]
                    have HF : Shut _ := ⟨(HD.out.on hbel).fin true⟩
                    clear HD hbel
                    go_wp2_with fail
                    refine ⟨by simp, .inl ⟨_, _, rfl, run_takeDeferred HF.out.1, ?_⟩⟩
                    exact ⟨_, results_cell rfl _ _ _ _ rfl (HF.out.2.1 _), rfl, HF.out.2.2 _⟩
end Go.Proofs.Ytckkdgifjgkoaaa
