/- The walk of CursorHolds. -/
import Derived.Test.YtbncjinkojeioaaCuMap
import Derived.Test.YtbncjinkojeioaaCuReg
import Derived.Shelf.Abstract
namespace Go.Proofs.Ytbncjinkojeioaa
open Go.ChangeShapes Go.WideShapes Go.ChangeAt Go.RowKit Go.Maps Sp Cu

/-- Where the law stands: so many are given out and not freed, the map says which. -/
structure Rd (w W : World) (p : Nat) (n : Nat) (M : Nat) (m i : Nat) : Prop where
  hd : ∃ v s f, Hd w W p v s M i f ∧ Agree f s ∧ s.n = n ∧ s.many = m
theorem Rd.below {w W : World} {p n M m i : Nat} (h : Rd w W p n M m i) : Below w.heap.size w W := by
  obtain ⟨v, s, f, h, _⟩ := h.hd
  exact h.below
theorem Hd.more {w W : World} {p : Nat} {v : Value} {s : Cu} {M i j : Nat} {f : Int → Nat} (h : Hd w W p v s M i f) (hj : i ≤ j) : Hd w W p v s M j f := ⟨h.cur, h.map.more hj, h.off, h.low, h.below⟩
theorem tk_kind {s : Cu} (wf : WF s) : (s.many = s.n ∧ Tk s 0 false s) ∨ (s.many < s.n ∧ ∃ x, Tk s x true (s.put x) ∧ x < s.n ∧ s.u x = false ∧ (s.put x).many = s.many + 1) := by
  obtain ⟨x, b, s', h⟩ := tk_any wf
  cases h with
  | none h => exact .inl ⟨h.many, .none h⟩
  | one h => exact .inr ⟨h.many, x, .one h, h.1, h.2.1, many_put h⟩
set_option maxRecDepth 100000 in
set_option maxHeartbeats 8000000 in
theorem holds_any (q : Nat) (hq : q ≤ 255) (a : Option Addr) (len cap : Nat) (zs : List Int) (w : World) (hs : Sl .u8 w a len zs 256) :
    Calls Try.prog 6 #[.int .u8 (q : Int), .slice a len cap] w fun e w' => e = .returned (.bool true) ∧ Below w.heap.size w w' := by
  have HL : Shut (Sl .u8 w a len zs 256) := ⟨hs⟩
  clear hs
  obtain ⟨n, hn⟩ : ∃ n : Nat, 1 + (q : Int) % 100 = n := ⟨1 + q % 100, by omega⟩
  have hn1 : 1 ≤ n := by omega
  have hn2 : (n : Int) ≤ 100 := by omega
  have hn0 : ¬ (n : Int) = 0 := by omega
  have hn00 : ((n : Int) == 0) = false := beq_eq_false_iff_ne.2 hn0
  have hq2 : (q : Int) ≤ 255 := by omega
  have hnew := fun u (hb : Below w.heap.size w u) => new_ok n hn1 (by omega) u
  have HN : Shut (1 ≤ n ∧ n ≤ 100) := ⟨hn1, by omega⟩
  have hmm := @run_makeMap Try.prog
  clear hn1 hq
  go_enter Try.func6, Try.ntmps6
  go_wp2_with fail
  refine (examples_any _).mono ?_
  rintro e w1' ⟨rfl, hb1⟩
  have HB := hide hb1
  clear hb1
  go_wp2_with fail
  refine (new_cur n HN.out.1 (by have := HN.out.2; omega) w _ (unhide HB)).mono ?_
  rintro e w2 ⟨p, rfl, h2⟩
  have H2 : Shut (Cur w w2 p (newCu n)) := ⟨h2⟩
  clear h2 hnew HB
  go_wp2_with fail
  have HR0 : Shut (Rd w (w2.alloc (.map #[] 0)) p n w2.heap.size 0 (3 * 0)) := ⟨by
    obtain ⟨v, ws, h⟩ := H2.out.lies
    have hb : Below w2.heap.size w2 (w2.alloc (.map #[] 0)) := (Below.refl _ _).alloc (Nat.le_refl _) _
    refine ⟨v, newCu n, fun _ => 0, ⟨⟨ws, h.on hb⟩, map_made w2, fun hx => ?_, H2.out.below.size, Below.then H2.out.below hb⟩, fun x _ => rfl, rfl, many_new n⟩
    have := (h.lies.lt _ hx).2
    omega⟩
  go_loopw [10, 11] (fun c t W => ∃ r m : Nat, t = .int .i64 (r : Int) ∧ c = .int .i64 (m : Int) ∧ Shut (r ≤ 60) ∧ Shut (Rd w W p n w2.heap.size m (3 * r))) (fun _ t _ => 60 - (intOf t).toNat)
  case atStart => exact ⟨0, 0, rfl, rfl, ⟨Nat.zero_le _⟩, HR0⟩
  case round =>
    obtain ⟨r, m, rfl, rfl, HR, H3⟩ := hrel
    have hr2 : (r : Int) ≤ 60 := by have := HR.out; omega
    by_cases h1 : r < len
    · have h11 : (r : Int) < (len : Int) := by omega
      by_cases h2 : r < 60
      · have h21 : (r : Int) < 60 := by omega
        obtain ⟨x, rfl, hcx, hz0, hz1⟩ := HL.out.on H3.out.below r h1
        have HR2 : Shut (r < 60) := ⟨h2⟩
        have H1 : Shut (r < len) := ⟨h1⟩
        clear h1 h2
        go_wp2_with fail
        go_loopw [10, 12] (fun c t W => ∃ k m : Nat, t = .int .i64 (k : Int) ∧ c = .int .i64 (m : Int) ∧ Shut (k ≤ 2) ∧ Shut (Rd w W p n w2.heap.size m (3 * r + k))) (fun _ t _ => 2 - (intOf t).toNat)
        case atStart => exact ⟨0, m, rfl, rfl, ⟨Nat.zero_le _⟩, H3⟩
        case round =>
          obtain ⟨k, m, rfl, rfl, HK, H4⟩ := hrel
          have hk2 : (k : Int) ≤ 2 := by have := HK.out; omega
          by_cases hk : k < 2
          · have hk1 : (k : Int) < 2 := by omega
            have HK1 : Shut (k < 2) := ⟨hk⟩
            clear hk
            obtain ⟨v, s, f, hd, ag, en, em⟩ := H4.out.hd
            rcases tk_kind hd.wf with ⟨e1, hT⟩ | ⟨e1, x, hT, hx, hu, e2⟩
            · have hcall := hd.take hT
              have hmn : ¬ (m : Int) < n := by omega
              have HE : Shut (Agree f s ∧ s.n = n ∧ s.many = m) := ⟨ag, en, em⟩
              clear hd ag en em e1 hT
              go_wp2_with fail
              refine hcall.mono ?_
              rintro e w4 ⟨rfl, v', h5⟩
              have H5 : Shut _ := ⟨h5⟩
              clear h5 hcall
              go_wp2_with fail
              go_roundw
              case rel => exact ⟨k + 1, m, by go_num, rfl, ⟨HK1.out⟩, ⟨⟨v', s, f, (H5.out.more (by omega)), HE.out⟩⟩⟩
              case measure => have := HK1.out; simp only [intOf]; omega
            · have hcall := hd.take hT
              have hmn : (m : Int) < n := by omega
              have hxn : (x : Int) < n := by omega
              have hxn2 : ¬ (n : Int) ≤ x := by omega
              have hx0 : ¬ (x : Int) < 0 := by omega
              have hf0 : f (x : Int) = 0 := by rw [ag x hx, hu]; rfl
              have HE : Shut (Agree (fun j => if j = (x : Int) then 1 else f j) (s.put x) ∧ (s.put x).n = n ∧ (s.put x).many = m + 1) := ⟨agree_take ag x, en, by rw [e2, em]⟩
              have hmb : (m : Int) ≤ 200 := by omega
              clear hd ag en em e1 hT hx hu e2
              go_wp2_with fail
              refine hcall.mono ?_
              rintro e w4 ⟨rfl, v', h5⟩
              have hl := h5.map.look (id := (x : Int)) (by omega)
              rw [hf0] at hl
              obtain ⟨w5, hup, h6⟩ := h5.set (by have := HR.out; have := HK1.out; omega) x (by omega) 1 (by omega)
              rw [show ((1 : Nat) : Int) = 1 from rfl] at hup
              have H6 : Shut _ := ⟨h6⟩
              clear h5 h6 hcall
              go_wp2_with fail
              go_roundw
              case rel => exact ⟨k + 1, m + 1, by go_num, by go_num, ⟨HK1.out⟩, ⟨⟨v', s.put x, _, H6.out, HE.out⟩⟩⟩
              case measure => have := HK1.out; simp only [intOf]; omega
          · have hk1 : ¬ (k : Int) < 2 := by omega
            obtain ⟨v, s, f, hd, ag, en, em⟩ := H4.out.hd
            obtain ⟨x', hx', hcx', _, _⟩ := HL.out.on H4.out.below r H1.out
            obtain rfl := Option.some.inj hx'
            obtain ⟨Z, hZ⟩ : ∃ Z : Nat, zs.getD r 0 = (Z : Int) := Int.eq_ofNat_of_zero_le hz0
            rw [hZ] at hcx' hz1
            obtain ⟨y, hy, hyn⟩ : ∃ y : Nat, (Z : Int) % (n : Int) = y ∧ y < s.n := ⟨Z % n, by omega, by rw [en]; exact Nat.mod_lt _ (by have := HN.out.1; omega)⟩
            have hyb : (y : Int) ≤ 200 := by have := HN.out.2; omega
            have H4B : Shut _ := ⟨H4.out.below⟩
            clear hx' hcx hz0
            cases hu : s.u y with
            | true =>
              have HF : Shut (f (y : Int) = 1) := ⟨by rw [ag y hyn, hu]; rfl⟩
              have hmf := many_free hd.wf hyn
              rw [hu] at hmf
              obtain ⟨m1, rfl⟩ : ∃ m1, m = m1 + 1 := ⟨(s.free (y : Int)).many, by rw [← em]; exact hmf.symm⟩
              have HE : Shut (Agree (fun j => if j = (y : Int) then 0 else f j) (s.free (y : Int)) ∧ (s.free (y : Int)).n = n ∧ (s.free (y : Int)).many = m1) := ⟨agree_free hd.wf ag y, by rw [free_n]; exact en, by
                have e : (s.free (y : Int)).many + 1 = s.many := hmf
                omega⟩
              have hcall := hd.drew.free (y : Int) true (by rw [hd.wf.has]; exact hu)
              have hfu := free_has hd.wf y
              have HFU : Shut _ := ⟨hfu⟩
              have hmb : (m1 : Int) ≤ 200 := by have := many_le s; omega
              have HD : Shut _ := ⟨hd⟩
              clear hd ag en em hmf hfu hu hyn hZ hk
              go_wp2_with fail
              refine wp_region_one (by kernel_rfl) [.pointer (some ⟨p, 0, none⟩), .int .i64 (y : Int), .bool true, .map (some w2.heap.size), .int .i64 (y : Int), .int .i64 1, .bool true, .bool false] 2 (fun u => Hd w u p v (s.free (y : Int)) w2.heap.size (3 * r + k) f) (by kernel_rfl) (by decide) ?op ?call ?fin
              case op =>
                intro iop o bx u ho hne hw hJ hS
                match iop, ho with
                | 0, ho =>
                  obtain rfl := Option.some.inj ho
                  have d7 : bx.tmps.getD 7 undef = .pointer (some ⟨p, 0, none⟩) := hS.base 7 (by kernel_rfl)
                  refine ⟨rfl, rests_value (c := .pointer (some ⟨p, 0, none⟩)) ?_⟩
                  simp [execOp, Act.eval, go_sem, d7]
                | 1, ho =>
                  obtain rfl := Option.some.inj ho
                  have d15 : bx.tmps.getD 15 undef = .int .i64 (y : Int) := hS.base 15 (by kernel_rfl)
                  refine ⟨rfl, rests_value (c := .int .i64 (y : Int)) ?_⟩
                  simp [execOp, Act.eval, go_sem, d15]
                | 2, ho => exact absurd rfl hne
                | 3, ho =>
                  obtain rfl := Option.some.inj ho
                  have d9 : bx.tmps.getD 9 undef = .map (some w2.heap.size) := hS.base 9 (by kernel_rfl)
                  refine ⟨rfl, rests_value (c := .map (some w2.heap.size)) ?_⟩
                  simp [execOp, Act.eval, go_sem, d9]
                | 4, ho =>
                  obtain rfl := Option.some.inj ho
                  have d15 : bx.tmps.getD 15 undef = .int .i64 (y : Int) := hS.base 15 (by kernel_rfl)
                  refine ⟨rfl, rests_value (c := .int .i64 (y : Int)) ?_⟩
                  simp [execOp, Act.eval, go_sem, d15]
                | 5, ho =>
                  obtain rfl := Option.some.inj ho
                  have d94 : bx.tmps.getD 94 undef = .map (some w2.heap.size) := hS.dep 3 94 (by kernel_rfl) (by kernel_rfl)
                  have d95 : bx.tmps.getD 95 undef = .int .i64 (y : Int) := hS.dep 4 95 (by kernel_rfl) (by kernel_rfl)
                  have hl : (Instr.lookup 41 (.map (some w2.heap.size)) (.int .i64 (y : Int)) false).run Try.prog u = .ok (.int .i64 1) u := by
                    have e : f (y : Int) = 1 := HF.out
                    rcases hJ with rfl | hJ
                    · have := HD.out.drew.map.look (id := (y : Int)) (by omega)
                      rw [e] at this
                      exact this
                    · have := hJ.map.look (id := (y : Int)) (by omega)
                      rw [e] at this
                      exact this
                  refine ⟨rfl, rests_value (c := .int .i64 1) ?_⟩
                  simp [execOp, Act.eval, go_sem, d94, d95, hl]
                | 6, ho =>
                  obtain rfl := Option.some.inj ho
                  have d96 : bx.tmps.getD 96 undef = .int .i64 1 := hS.dep 5 96 (by kernel_rfl) (by kernel_rfl)
                  refine ⟨rfl, rests_value (c := .bool true) ?_⟩
                  simp [execOp, Act.eval, go_sem, d96]
                | 7, ho =>
                  obtain rfl := Option.some.inj ho
                  have d93 : bx.tmps.getD 93 undef = .bool true := hS.dep 2 93 (by kernel_rfl) (by kernel_rfl)
                  have d97 : bx.tmps.getD 97 undef = .bool true := hS.dep 6 97 (by kernel_rfl) (by kernel_rfl)
                  refine ⟨rfl, rests_value (c := .bool false) ?_⟩
                  simp [execOp, Act.eval, go_sem, d93, d97]
                | iop + 8, ho => exact absurd ho (by simp)
              case call =>
                intro o bx ho hS
                obtain rfl := Option.some.inj ho
                have d91 : bx.tmps.getD 91 undef = .pointer (some ⟨p, 0, none⟩) := hS.dep 0 91 (by kernel_rfl) (by kernel_rfl)
                have d92 : bx.tmps.getD 92 undef = .int .i64 (y : Int) := hS.dep 1 92 (by kernel_rfl) (by kernel_rfl)
                refine ⟨rfl, yieldsY_call (f := 10) (args := #[.pointer (some ⟨p, 0, none⟩), .int .i64 (y : Int)]) (u := _) ?_ ((hcall).mono fun e u' h => ⟨_, h.1, rfl, h.2⟩) (K := fun vv u' => vv = .bool true ∧ Hd w u' p v (s.free (y : Int)) w2.heap.size (3 * r + k) f) fun _ _ h => h⟩
                simp [Act.eval, d91, d92, go_sem]
              case fin =>
                intro u hu
                have hl := hu.map.look (id := (y : Int)) (by omega)
                rw [HF.out] at hl
                obtain ⟨w5, hup, h6⟩ := hu.set (by have := HR2.out; have := HK.out; omega) y (by omega) 0 (by omega)
                rw [show ((0 : Nat) : Int) = 0 from rfl] at hup
                have H6 : Shut _ := ⟨h6⟩
                clear hu h6 hcall
                simp [putAll, dstAt, Act.put]
                go_wp2_with fail
                refine (H6.out.len m1 HE.out.2.2).mono ?_
                rintro e w6 ⟨rfl, rfl⟩
                go_wp2_with fail
                refine (H6.out.used (y : Int) false HFU.out).mono ?_
                rintro e w6 ⟨rfl, rfl⟩
                go_wp2_with fail
                go_roundw
                case rel => exact ⟨r + 1, m1, by go_num, by go_num, ⟨HR2.out⟩, ⟨⟨v, _, _, H6.out.more (by have := HK.out; omega), HE.out⟩⟩⟩
                case measure => have := HR2.out; simp only [intOf]; omega
            | false =>
              have HF : Shut (f (y : Int) = 0) := ⟨by rw [ag y hyn, hu]; rfl⟩
              have hmf := many_free hd.wf hyn
              rw [hu] at hmf
              obtain ⟨m1, hm1⟩ : ∃ m1, m1 = m := ⟨m, rfl⟩
              subst hm1
              have HE : Shut (Agree (fun j => if j = (y : Int) then 0 else f j) (s.free (y : Int)) ∧ (s.free (y : Int)).n = n ∧ (s.free (y : Int)).many = m1) := ⟨agree_free hd.wf ag y, by rw [free_n]; exact en, by
                have e : (s.free (y : Int)).many + 0 = s.many := hmf
                omega⟩
              have hcall := hd.drew.free (y : Int) false (by rw [hd.wf.has]; exact hu)
              have hfu := free_has hd.wf y
              have HFU : Shut _ := ⟨hfu⟩
              have hmb : (m1 : Int) ≤ 200 := by have := many_le s; omega
              have HD : Shut _ := ⟨hd⟩
              clear hd ag en em hmf hfu hu hyn hZ hk
              go_wp2_with fail
              refine wp_region_one (by kernel_rfl) [.pointer (some ⟨p, 0, none⟩), .int .i64 (y : Int), .bool false, .map (some w2.heap.size), .int .i64 (y : Int), .int .i64 0, .bool false, .bool false] 2 (fun u => Hd w u p v (s.free (y : Int)) w2.heap.size (3 * r + k) f) (by kernel_rfl) (by decide) ?op ?call ?fin
              case op =>
                intro iop o bx u ho hne hw hJ hS
                match iop, ho with
                | 0, ho =>
                  obtain rfl := Option.some.inj ho
                  have d7 : bx.tmps.getD 7 undef = .pointer (some ⟨p, 0, none⟩) := hS.base 7 (by kernel_rfl)
                  refine ⟨rfl, rests_value (c := .pointer (some ⟨p, 0, none⟩)) ?_⟩
                  simp [execOp, Act.eval, go_sem, d7]
                | 1, ho =>
                  obtain rfl := Option.some.inj ho
                  have d15 : bx.tmps.getD 15 undef = .int .i64 (y : Int) := hS.base 15 (by kernel_rfl)
                  refine ⟨rfl, rests_value (c := .int .i64 (y : Int)) ?_⟩
                  simp [execOp, Act.eval, go_sem, d15]
                | 2, ho => exact absurd rfl hne
                | 3, ho =>
                  obtain rfl := Option.some.inj ho
                  have d9 : bx.tmps.getD 9 undef = .map (some w2.heap.size) := hS.base 9 (by kernel_rfl)
                  refine ⟨rfl, rests_value (c := .map (some w2.heap.size)) ?_⟩
                  simp [execOp, Act.eval, go_sem, d9]
                | 4, ho =>
                  obtain rfl := Option.some.inj ho
                  have d15 : bx.tmps.getD 15 undef = .int .i64 (y : Int) := hS.base 15 (by kernel_rfl)
                  refine ⟨rfl, rests_value (c := .int .i64 (y : Int)) ?_⟩
                  simp [execOp, Act.eval, go_sem, d15]
                | 5, ho =>
                  obtain rfl := Option.some.inj ho
                  have d94 : bx.tmps.getD 94 undef = .map (some w2.heap.size) := hS.dep 3 94 (by kernel_rfl) (by kernel_rfl)
                  have d95 : bx.tmps.getD 95 undef = .int .i64 (y : Int) := hS.dep 4 95 (by kernel_rfl) (by kernel_rfl)
                  have hl : (Instr.lookup 41 (.map (some w2.heap.size)) (.int .i64 (y : Int)) false).run Try.prog u = .ok (.int .i64 0) u := by
                    have e : f (y : Int) = 0 := HF.out
                    rcases hJ with rfl | hJ
                    · have := HD.out.drew.map.look (id := (y : Int)) (by omega)
                      rw [e] at this
                      exact this
                    · have := hJ.map.look (id := (y : Int)) (by omega)
                      rw [e] at this
                      exact this
                  refine ⟨rfl, rests_value (c := .int .i64 0) ?_⟩
                  simp [execOp, Act.eval, go_sem, d94, d95, hl]
                | 6, ho =>
                  obtain rfl := Option.some.inj ho
                  have d96 : bx.tmps.getD 96 undef = .int .i64 0 := hS.dep 5 96 (by kernel_rfl) (by kernel_rfl)
                  refine ⟨rfl, rests_value (c := .bool false) ?_⟩
                  simp [execOp, Act.eval, go_sem, d96]
                | 7, ho =>
                  obtain rfl := Option.some.inj ho
                  have d93 : bx.tmps.getD 93 undef = .bool false := hS.dep 2 93 (by kernel_rfl) (by kernel_rfl)
                  have d97 : bx.tmps.getD 97 undef = .bool false := hS.dep 6 97 (by kernel_rfl) (by kernel_rfl)
                  refine ⟨rfl, rests_value (c := .bool false) ?_⟩
                  simp [execOp, Act.eval, go_sem, d93, d97]
                | iop + 8, ho => exact absurd ho (by simp)
              case call =>
                intro o bx ho hS
                obtain rfl := Option.some.inj ho
                have d91 : bx.tmps.getD 91 undef = .pointer (some ⟨p, 0, none⟩) := hS.dep 0 91 (by kernel_rfl) (by kernel_rfl)
                have d92 : bx.tmps.getD 92 undef = .int .i64 (y : Int) := hS.dep 1 92 (by kernel_rfl) (by kernel_rfl)
                refine ⟨rfl, yieldsY_call (f := 10) (args := #[.pointer (some ⟨p, 0, none⟩), .int .i64 (y : Int)]) (u := _) ?_ ((hcall).mono fun e u' h => ⟨_, h.1, rfl, h.2⟩) (K := fun vv u' => vv = .bool false ∧ Hd w u' p v (s.free (y : Int)) w2.heap.size (3 * r + k) f) fun _ _ h => h⟩
                simp [Act.eval, d91, d92, go_sem]
              case fin =>
                intro u hu
                have hl := hu.map.look (id := (y : Int)) (by omega)
                rw [HF.out] at hl
                obtain ⟨w5, hup, h6⟩ := hu.set (by have := HR2.out; have := HK.out; omega) y (by omega) 0 (by omega)
                rw [show ((0 : Nat) : Int) = 0 from rfl] at hup
                have H6 : Shut _ := ⟨h6⟩
                clear hu h6 hcall
                simp [putAll, dstAt, Act.put]
                go_wp2_with fail
                refine (H6.out.len m1 HE.out.2.2).mono ?_
                rintro e w6 ⟨rfl, rfl⟩
                go_wp2_with fail
                refine (H6.out.used (y : Int) false HFU.out).mono ?_
                rintro e w6 ⟨rfl, rfl⟩
                go_wp2_with fail
                go_roundw
                case rel => exact ⟨r + 1, m1, by go_num, by go_num, ⟨HR2.out⟩, ⟨⟨v, _, _, H6.out.more (by have := HK.out; omega), HE.out⟩⟩⟩
                case measure => have := HR2.out; simp only [intOf]; omega
      · have h21 : ¬ (r : Int) < 60 := by omega
        clear h1 h2
        go_wp2_with fail
        go_ret
        exact ⟨rfl, H3.out.below⟩
    · have h11 : ¬ (r : Int) < (len : Int) := by omega
      clear h1
      go_wp2_with fail
      go_ret
      exact ⟨rfl, H3.out.below⟩
end Go.Proofs.Ytbncjinkojeioaa
