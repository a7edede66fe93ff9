/- The law PoolRoom returns true for every room and whoever drains, and changes nothing that was there before; no condition but the form's own. -/
import Derived.Test.YtckkdgifjgkoaaaRows
import Derived.OpenShut
import Derived.ShutString
import Derived.ChangeOld
import Derived.Below
import Derived.SizedLaws
import Derived.Test.YtckkdgifjgkoaaaPqMov
import Derived.Test.YtckkdgifjgkoaaaPqRange
namespace Go.Proofs.Ytckkdgifjgkoaaa.poolRoom
open Go.ChangeShapes Go.WideShapes Go.ChangeAt Go.RowKit
open Go.ChangeMaps (open_string shut_string)
set_option linter.unusedVariables false
open An Sp Go.Shelf
attribute [local go_sem] Oper.semAt_some
theorem putE_20 {r : Nat} {p : Pl} (hI : PInv r p.a p.L p.own) {id port : Int} (hf : Fine id port) (h : Po.stOf p id ≠ 0) : Po.putE r p id port = 20 := by
  rw [Po.putE_eq hI, if_neg (fun h => h hf), if_pos h]
theorem putE_16 {r : Nat} {p : Pl} (hI : PInv r p.a p.L p.own) {id port : Int} (hf : Fine id port) (h : Po.stOf p id = 0) (ha : Po.active p.L = r) : Po.putE r p id port = 16 := by
  rw [Po.putE_eq hI, if_neg (fun h => h hf), if_neg (fun h' => h' h), if_pos ha]
theorem putE_0 {r : Nat} {p : Pl} (hI : PInv r p.a p.L p.own) {id port : Int} (hf : Fine id port) (h : Po.stOf p id = 0) (ha : Po.active p.L ≠ r) : Po.putE r p id port = 0 := by
  rw [Po.putE_eq hI, if_neg (fun h => h hf), if_neg (fun h' => h' h), if_neg ha]
set_option maxRecDepth 100000 in
set_option maxHeartbeats 16000000 in
theorem room_any (q d : Nat) (hq : q ≤ 255) (hd : d ≤ 255) (w : World) :
    Calls Try.prog 5 #[.int .u8 (q : Int), .int .u8 (d : Int)] w fun e w' => e = .returned (.bool true) ∧ Below w.heap.size w w' := by
  obtain ⟨nm, hnm⟩ : ∃ nm : Nat, q % 8 = nm := ⟨_, rfl⟩
  obtain ⟨n, hn⟩ : ∃ n : Nat, 1 + nm = n := ⟨_, rfl⟩
  have hni : (1 : Int) + (q : Int) % 8 = (n : Int) := by omega
  have HN : Shut (1 ≤ n ∧ n ≤ 8) := ⟨by omega⟩
  have hn0 : ¬ (n : Int) = 0 := by omega
  have hkr : (d : Int).tmod (n : Int) = ((d % n : Nat) : Int) := by rw [← Int.ofNat_tmod]
  have hlt : d % n < n := Nat.mod_lt _ (by omega)
  obtain ⟨κ, hκ⟩ : ∃ κ, d % n = κ := ⟨_, rfl⟩
  rw [hκ] at hkr hlt
  obtain ⟨k, hk⟩ : ∃ k : Nat, 1 + κ = k := ⟨_, rfl⟩
  have hki : (1 : Int) + (κ : Int) = (k : Int) := by omega
  have HK : Shut (1 ≤ k ∧ k ≤ n) := ⟨by omega⟩
  have hk1 : (k : Int) ≤ 8 := by omega
  have hk2 : (κ : Int) ≤ 8 := by omega
  have hE := hide (examples_any w)
  have hNew := hide (fun (W : World) (h : Below w.heap.size w W) => run_new w W h n (by omega) (by omega) key0 key0_size)
  have hd1 : (d : Int) ≤ 255 := by omega
  have hn1 : (n : Int) ≤ 8 := by omega
  clear hn hnm hk hκ hlt hq hd
  refine (callsIn_wide (n := 0)).1 ?_
  refine callsIn_of_wp_marks Try.func5 rfl trivial ?_ rfl
  simp only [Try.ntmps5, List.size_toArray, List.length_cons, List.length_nil, Nat.reduceAdd, Nat.reduceSub, Array.replicate_succ, Array.replicate_zero, List.push_toArray, List.append_toArray, List.nil_append, List.cons_append]
  refine wpIn_wide.2 ?_
  go_wp2_with fail
  refine (unhide hE).mono ?_
  rintro e w1 ⟨rfl, hb1⟩
  have h : Hid (Calls Try.prog 9 #[.int .i64 (n : Int), .string key0] w1 fun e w' => ∃ (b : QBk) (v : Value), e = .returned (.tuple #[.pointer (some ⟨b.p, 0, none⟩), .int .i64 0]) ∧ Run w w1.heap.size key0 n w' b v (pl0 n) ∧ Below w1.heap.size w1 w') := hide (unhide hNew w1 hb1)
  clear hE hNew
  go_wp2_with fail
  refine (unhide h).mono ?_
  rintro e w2 ⟨b, v, rfl, R2, _⟩
  have HR2 : Shut _ := ⟨R2⟩
  clear h hb1 R2
  go_wp2_with fail
  go_loopw [9] (fun t W => ∃ (i : Nat) (u : Value) (p : Pl), t = .int .i64 (i : Int) ∧ 1 ≤ i ∧ i ≤ n + 1 ∧ Shut (Run w w1.heap.size key0 n W b u p) ∧ Shut (Po.Filled n (i - 1) p)) (fun t _ => n + 1 - (intOf t).toNat)
  case atStart => exact ⟨1, v, pl0 n, rfl, Nat.le_refl _, by omega, HR2, ⟨Po.filled_start HN.out.1⟩⟩
  case round =>
    obtain ⟨i, u, p, rfl, hi1, hi2, HR, HF⟩ := hrel
    clear HR2
    by_cases hle : i ≤ n
    · have hi3 : (i : Int) ≤ n := by omega
      have hi4 : (i : Int) ≤ 8 := by omega
      have e1 : (((i - 1 : Nat) : Int) + 1) = (i : Int) := by omega
      have hput := HF.out.put (by omega) 0 0 (by decide) (by have := HN.out; omega)
      have hfin := HF.out.fine (by omega) 0 (by decide) (by have := HN.out; omega)
      rw [e1] at hput hfin
      rw [show i - 1 + 1 = i + 1 - 1 by omega] at hput
      have HF2 : Shut _ := ⟨hput⟩
      have hc := HR.out.put i 0 0 (by omega)
      rw [hfin] at hc
      have hC := hide hc
      clear hc hput hfin HF e1
      go_wp2_with fail
      refine (unhide hC).mono ?_
      rintro e w5 ⟨rfl, v5, R5, _⟩
      have HR5 : Shut _ := ⟨R5⟩
      clear hC R5 HR
      generalize Po.putP n p (i : Int) 0 0 = p5 at *
      have hE20 : Po.putE n p5 (i : Int) 0 = 20 := putE_20 HF2.out.inv ⟨by omega, by omega, by decide, by decide⟩ (by
        have e : Po.stOf p5 (i : Int) = 1 := by rw [HF2.out.st]; exact if_pos (by omega)
        rw [e]; decide)
      have hc := HR5.out.put i 0 0 (by omega)
      rw [hE20, Po.put_no (by rw [hE20]; decide)] at hc
      have hC := hide hc
      clear hc hE20
      go_wp2_with fail
      refine (unhide hC).mono ?_
      rintro e w6 ⟨rfl, v6, R6, _⟩
      have HR6 : Shut _ := ⟨R6⟩
      clear hC R6 HR5
      go_wp2_with fail
      go_roundw
      case rel => exact ⟨i + 1, v6, _, by go_num, by omega, by omega, HR6, HF2⟩
      case measure => simp [intOf]; omega
    · have hi3 : ¬ (i : Int) ≤ n := by omega
      have HF0 : Shut (Po.Filled n n p) := ⟨(show i - 1 = n by omega) ▸ HF.out⟩
      have h16 : Po.putE n p 100 0 = 16 := putE_16 HF0.out.inv ⟨by decide, by decide, by decide, by decide⟩ (by rw [HF0.out.st]; exact if_neg (by have := HN.out; omega)) HF0.out.act
      have hc := HR.out.put 100 0 0 (by decide)
      rw [h16, Po.put_no (by rw [h16]; decide)] at hc
      have hC := hide hc
      clear hle hi1 hi2 HF h16 hc
      go_wp2_with fail
      refine (unhide hC).mono ?_
      rintro e w3 ⟨rfl, v3, R3, _⟩
      have HR3 : Shut _ := ⟨R3⟩
      clear hC R3 HR
      have hdr := HF0.out.drain HK.out.1 HK.out.2
      have HDr : Shut _ := ⟨hdr.2⟩
      have HLn : Shut ((Po.drainP p (k : Int)).L.length = n) := ⟨(Po.drain_length _).trans HF0.out.len⟩
      have hc := HR3.out.drain (k : Int) (by have := HK.out; have := HN.out; omega)
      rw [hdr.1] at hc
      have hC := hide hc
      clear hc hdr
      go_wp2_with fail
      refine (unhide hC).mono ?_
      rintro e w4 ⟨rfl, v4, R4, _⟩
      have HR4 : Shut _ := ⟨R4⟩
      clear hC R4 HR3
      generalize Po.drainP p (k : Int) = p1 at *
      have h0 : Po.putE n p1 100 0 = 0 := putE_0 HDr.out.inv ⟨by decide, by decide, by decide, by decide⟩ (by
        have e1 : ¬ (100 : Int) = (k : Int) := by have := HK.out; have := HN.out; omega
        have e2 : ¬ (1 ≤ (100 : Int) ∧ (100 : Int) ≤ (n : Int)) := by have := HN.out; omega
        rw [HDr.out.st, if_neg e1, if_neg e2]) (by rw [HDr.out.act]; have := HN.out; omega)
      have hc := HR4.out.put 100 0 0 (by decide)
      rw [h0] at hc
      have hC := hide hc
      have HS2 : Shut (∀ id : Int, Po.stOf (Po.putP n p1 100 0 0) id = if id = 100 then 1 else Po.stOf p1 id) := ⟨fun id => Po.put_st HDr.out.inv h0 id⟩
      have HA2 : Shut (Po.active (Po.putP n p1 100 0 0).L = n) := ⟨by rw [Po.put_active h0, HDr.out.act]; have := HN.out; omega⟩
      have HL2 : Shut ((Po.putP n p1 100 0 0).L.length = n + 1) := ⟨by rw [Po.put_length h0, HLn.out]⟩
      clear hc h0 HLn
      go_wp2_with fail
      refine (unhide hC).mono ?_
      rintro e w5 ⟨rfl, v5, R5, _⟩
      have HR5 : Shut _ := ⟨R5⟩
      clear hC R5 HR4
      generalize Po.putP n p1 100 0 0 = p2 at *
      have hst : Po.stOf p2 (k : Int) = 2 := by
        have e1 : ¬ (k : Int) = 100 := by have := HK.out; have := HN.out; omega
        rw [HS2.out, if_neg e1, HDr.out.st, if_pos rfl]
      have HST : Shut (Po.stOf p2 (k : Int) = 2) := ⟨hst⟩
      have h20 : Po.putE n p2 (k : Int) 0 = 20 := putE_20 HR5.out.inv ⟨by have := HK.out; omega, by omega, by decide, by decide⟩ (by rw [hst]; decide)
      have hc := HR5.out.put (k : Int) 0 0 (by decide)
      rw [h20, Po.put_no (by rw [h20]; decide)] at hc
      have hC := hide hc
      clear hc h20 hst
      go_wp2_with fail
      refine (unhide hC).mono ?_
      rintro e w6 ⟨rfl, v6, R6, _⟩
      have HR6 : Shut _ := ⟨R6⟩
      clear hC R6 HR5
      have hc := HR6.out.get (k : Int) (by omega)
      obtain ⟨y1, y2, y3, hG⟩ := Po.getV_eq p2 (k : Int)
      rw [hG, Po.stOf_there HR6.out.inv, HST.out] at hc
      have hC : Hid (Calls Try.prog 20 #[.pointer (some ⟨b.p, 0, none⟩), .int .i64 (k : Int)] w6 fun e w' => e = .returned (.tuple #[.agg #[.int .i64 (y1 : Int), .int .u32 (y2 : Int), .int .i64 (y3 : Int)], .int .i64 2, .int .i64 0]) ∧ Below w6.heap.size w6 w') := hc
      clear hc hG
      go_wp2_with fail
      refine (unhide hC).mono ?_
      rintro e w7 ⟨rfl, hb⟩
      have HR7 : Shut _ := ⟨(HR6.out.on hb).on (alloc_on w7 (.cells #[.int .i64 (y1 : Int), .int .u32 (y2 : Int), .int .i64 (y3 : Int)] 33))⟩
      clear hC hb HR6
      have h0 : Po.goneE p2 (k : Int) = 0 := by rw [Po.goneE_eq HR7.out.inv, HST.out]; rfl
      have hc := HR7.out.gone (k : Int) (by omega)
      rw [h0] at hc
      have hC := hide hc
      have HS3 : Shut (Po.stOf (Po.goneP p2 (k : Int)) (k : Int) = 0) := ⟨by rw [Po.gone_st HR7.out.inv, if_pos rfl]⟩
      have HA3 : Shut (Po.active (Po.goneP p2 (k : Int)).L = n) := ⟨by
        have := Po.gone_active HR7.out.inv (id := (k : Int)) (by rw [HST.out]; decide)
        rw [HST.out, HA2.out] at this
        simpa using this⟩
      have HL3 : Shut ((Po.goneP p2 (k : Int)).L.length = n) := ⟨by
        have := Po.gone_length HR7.out.inv (id := (k : Int)) (by rw [HST.out]; decide)
        rw [HL2.out] at this
        omega⟩
      clear hc h0 HA2 HL2
      go_wp2_with fail
      refine (unhide hC).mono ?_
      rintro e w8 ⟨rfl, v8, R8, _⟩
      have HR8 : Shut _ := ⟨R8⟩
      clear hC R8 HR7
      generalize Po.goneP p2 (k : Int) = p3 at *
      have hc := HR8.out.get (k : Int) (by omega)
      obtain ⟨z1, z2, z3, hG⟩ := Po.getV_eq p3 (k : Int)
      rw [hG, Po.stOf_there HR8.out.inv, HS3.out] at hc
      have hC : Hid (Calls Try.prog 20 #[.pointer (some ⟨b.p, 0, none⟩), .int .i64 (k : Int)] w8 fun e w' => e = .returned (.tuple #[.agg #[.int .i64 (z1 : Int), .int .u32 (z2 : Int), .int .i64 (z3 : Int)], .int .i64 0, .int .i64 19]) ∧ Below w8.heap.size w8 w') := hc
      clear hc hG
      go_wp2_with fail
      refine (unhide hC).mono ?_
      rintro e w9 ⟨rfl, hb⟩
      have hR9 := (HR8.out.on hb).on (alloc_on w9 (.cells #[.int .i64 (z1 : Int), .int .u32 (z2 : Int), .int .i64 (z3 : Int)] 33))
      obtain ⟨W9, hW9⟩ : ∃ W9, w9.alloc (.cells #[.int .i64 (z1 : Int), .int .u32 (z2 : Int), .int .i64 (z3 : Int)] 33) = W9 := ⟨_, rfl⟩
      rw [hW9] at hR9
      have hR10 := hR9.on (alloc_on W9 (.cells #[.int .i64 0] 3))
      have hX10 : Row (W9.alloc (.cells #[.int .i64 0] 3)) W9.heap.size [.int .i64 0] := row_new W9 [.int .i64 0] 3
      have hoff := hR9.fresh (Nat.le_refl _)
      have hq := hide (fun u => qall_any b.p u)
      have HR10 : Shut _ := ⟨hR10⟩
      have HX10 : Shut _ := ⟨hX10⟩
      have HO : Shut _ := ⟨hoff⟩
      have HS9 : Shut (w.heap.size ≤ W9.heap.size) := ⟨hR9.below.size⟩
      have hs10 : (W9.alloc (.cells #[.int .i64 0] 3)).heap.size = W9.heap.size + 1 := by simp
      clear hC hb HR8 hR9 hR10 hX10 hoff
      go_wp2_with fail
      refine (unhide hq _).mono ?_
      rintro e w11 ⟨rfl, hw⟩
      have hZ : w11.cell? ⟨W9.heap.size + 1, 0, none⟩ = some (.pointer (some ⟨b.p, 0, none⟩)) := by rw [hw]; simp [go_sem]
      have hB11 : Below (W9.alloc (.cells #[.int .i64 0] 3)).heap.size (W9.alloc (.cells #[.int .i64 0] 3)) w11 := by rw [hw]; exact alloc_on _ _
      have hs11 : w11.heap.size = W9.heap.size + 2 := by rw [hw]; simp
      clear hw hq
      have hR11 := HR10.out.on hB11
      have hX11 := HX10.out.on' hB11
      have hpl : ∀ x ∈ qfeet b v8, x < W9.heap.size := fun x hx => by
        have := (hR11.lt x hx).2
        have h1 : x ≠ W9.heap.size := fun e => HO.out (e ▸ hx)
        have h2 := (HR10.out.lt x hx).2
        rw [hs10] at h2
        omega
      have hbp : b.p < W9.heap.size := hpl _ (by simp [qfeet])
      have hbm : b.m < W9.heap.size := hpl _ (by simp [qfeet])
      have hLk := hR11.at_.lk
      have HS9' := HS9.out
      have HR11 : Shut _ := ⟨hR11⟩
      have HX11 : Shut _ := ⟨hX11⟩
      clear HR10 HX10 hB11 hR11 hX11 hs10
      go_wp2_with fail
      refine wp_all0 (b := b) (L := p3.L) (B := W9.heap.size + 1) rfl HR11.out.inv.ids HR11.out.inv.idr HR11.out.inv.len hZ hLk (fun j => j ≠ W9.heap.size) (fun j hj => by omega) (by omega) (by omega) (by omega)
        (fun j W => Row W W9.heap.size [.int .i64 (j : Int)] ∧ Run w w1.heap.size key0 n W b v8 p3) (fun _ _ _ => False)
        (fun j W W' h hb => ⟨h.1.on hb (by omega), h.2.keep (fun x hx => by have := hpl x hx; omega) (by omega) hb⟩) (fun _ _ _ _ h _ => h)
        ⟨HX11.out, HR11.out⟩ ?body ?done (fun _ _ _ h _ => h.elim)
      case body =>
        rintro l j W hj ⟨h1, h2⟩
        have hjb : (j : Int) ≤ 1000000 := by have := HR11.out.inv.len; omega
        have c1 := h1.cell 0 _ rfl
        have g1 := h1.free 0
        have q1 : Row (W.setCell ⟨W9.heap.size, 0, none⟩ (.int .i64 ((j : Int) + 1))) W9.heap.size [.int .i64 ((j + 1 : Nat) : Int)] := h1.set 0 (.int .i64 ((j : Int) + 1))
        have q2 : Run w w1.heap.size key0 n (W.setCell ⟨W9.heap.size, 0, none⟩ (.int .i64 ((j : Int) + 1))) b v8 p3 := h2.aside HO.out HS9' 0 _
        have H : Shut _ := ⟨(⟨q1, q2⟩ : _ ∧ _)⟩
        clear q1 q2 h1 h2
        simp only [allAct]
        gi_wp2
        exact ⟨(Keeps.refl _ _).setCell (p := ⟨W9.heap.size, 0, none⟩) (by simp) _, H.out⟩
      case done =>
        rintro W ⟨h1, h2⟩ hK
        rw [HL3.out] at h1
        have c1 := h1.cell 0 _ rfl
        have HK2 : Shut _ := ⟨hK⟩
        have hAc := h2.act
        rw [HA3.out] at hAc
        have hC := hide hAc
        have HR : Shut _ := ⟨h2⟩
        clear hK hAc h1 h2
        have HKl : Shut (w11.heap.size < W.heap.size) := ⟨(Array.getElem?_eq_some_iff.1 HK2.out).1⟩
        have hF1 := hide (fun u => qput_arg b.p 0 0 0 (by unfold Fine; omega) (w := u))
        have hF2 := hide (fun u => qput_arg b.p 7 0 65536 (by unfold Fine; omega) (w := u))
        go_wp2_with fail
        refine (unhide hC).mono ?_
        rintro e w12 ⟨rfl, hw⟩
        obtain rfl := hw.symm
        clear hw hC
        go_wp2_with fail
        refine (unhide hF1 _).mono ?_
        rintro e w13 ⟨rfl, hb13⟩
        have HK3 : Shut (w13.heap[w11.heap.size]? = some (.deferred (some [])) ∧ w11.heap.size < w13.heap.size) := ⟨(hb13.block _ HKl.out).trans HK2.out, Nat.lt_of_lt_of_le HKl.out hb13.size⟩
        have HB3 : Shut _ := ⟨Below.then HR.out.below hb13⟩
        clear hb13 HK2 HKl c1
        go_wp2_with fail
        refine (unhide hF2 _).mono ?_
        rintro e w14 ⟨rfl, hb14⟩
        have HK4 : Shut (w14.heap[w11.heap.size]? = some (.deferred (some []))) := ⟨(hb14.block _ HK3.out.2).trans HK3.out.1⟩
        have HB4 : Shut _ := ⟨Below.then HB3.out hb14⟩
        have HSz : Shut (w.heap.size ≤ w11.heap.size) := ⟨by omega⟩
        clear hb14 HK3 HB3
        go_wp2_with fail
        refine ⟨by simp, .inl ⟨_, _, rfl, run_takeDeferred (hs11 ▸ HK4.out), ?_⟩⟩
        refine ⟨.bool true, ?_, rfl, below_put HB4.out (by omega) _⟩
        simp [results, Try.results5, go_sem]
set_option maxHeartbeats 8000000 in
set_option maxRecDepth 100000 in
theorem walk (w : World) (a0 : Int) (a1 : Int) (w0 : (Lit.int .u8 a0).wf = true) (w1 : (Lit.int .u8 a1).wf = true) :
    Calls Try.prog 5 #[.int .u8 a0, .int .u8 a1] w fun e w' => e = .returned (.bool true) ∧ Below w.heap.size w w' := by
  obtain ⟨x0, x1⟩ := u8_bounds w0
  obtain ⟨y0, y1⟩ := u8_bounds w1
  obtain ⟨q, rfl⟩ := Int.eq_ofNat_of_zero_le x0
  obtain ⟨d, rfl⟩ := Int.eq_ofNat_of_zero_le y0
  exact room_any q d (by omega) (by omega) w

theorem own : ownKnob Try.prog.godebug = none := by kernel_rfl
set_option maxRecDepth 100000 in
theorem lifted (os : Os) (started : os.Started) (H : Type) (enc : TypeId × Value → H) :
    ReturnsInHanded {} Try.checked os 5 .any (Rows.poolRoomSpec.pre6 enc Try.prog Try.f5 Rows.poolRoomRow.domain false) (Rows.poolRoomSpec.post enc Try.prog Try.f5 false true false false) := by
  refine returnsInHanded_of_change_sized (C := Try.checked) own started (by kernel_rfl) Try.func5
    (ChangeSpec.witness6 (enc := enc) (C := Try.checked) false ⟨#[], #[.int .u8 0, .int .u8 0], []⟩ 8 (by kernel_rfl) (by kernel_rfl) (by kernel_rfl) (by kernel_rfl)) ?_
  intro W base args ds gs before hval0 hW hcnd hsz _
  have hval : ∀ (j : Nat) t v, Try.f5.params[j]? = some t → args[j]? = some v → Value.okWide Try.prog W .any base t v := hval0
  have hW' := hW
  obtain ⟨p, q, hA0, hV, rfl, hfz, hnd⟩ := hW
  have hA : DataW.TrodAll enc Try.prog W 0 (fun _ => true) true Try.f5.params.toList args.toList ds p := hA0
  rw [Try.params5] at hA hval
  obtain ⟨v0, vs0, d0, ds0, p0, q0, hargs, rfl, rfl, h0, r0⟩ := trodAll_cons hA
  obtain ⟨v1, vs1, d1, ds1, p1, q1, rfl, rfl, rfl, h1, r1⟩ := trodAll_cons r0
  obtain ⟨rfl, rfl, rfl⟩ := trodAll_nil r1
  obtain rfl : args = #[v0, v1] := by cases args; simp_all
  obtain ⟨rfl, rfl⟩ := trodVars_none hV
  obtain ⟨a0, rfl, rfl, rfl, w0⟩ := open_int Try.underlying5 (hval 0 5 v0 rfl rfl) h0
  obtain ⟨a1, rfl, rfl, rfl, w1⟩ := open_int Try.underlying5 (hval 1 5 v1 rfl rfl) h1
  clear hA0 hval0
  simp only [List.append_nil] at hW'
  refine (walk W a0 a1 w0 w1).mono fun e W' ⟨he, bel⟩ => ?_
  subst he
  exact ⟨_, rfl, _, _, _, [], _, [], hW', (trodAll_cons_mk (shut_bool Try.underlying4 _) trodAll_mk0), (trodAll_cons_mk (shut_int Try.underlying5 w0) (trodAll_cons_mk (shut_int Try.underlying5 w1) trodAll_mk0)), rfl, bel.frame _, fun h => by cases h⟩

theorem over : Rows.poolRoomRow.holds Try.pinned (OpenSpec.ofChange Rows.poolRoomSpec) :=
  OpenClaim.holds_of_wide 5 Try.f5 rfl rfl rfl rfl rfl rfl rfl ⟨rfl, rfl, rfl, rfl, rfl⟩ rfl rfl rfl rfl rfl (by kernel_rfl) Try.func5 (by kernel_rfl)
    (of_decide_eq_true (by kernel_rfl)) (by unfold Func.isWrapper; first | (rw [if_pos (by decide +kernel)]; kernel_rfl) | (rw [if_neg (by decide +kernel)]; exact ⟨rfl, rfl⟩))
    (fun os started H enc _ => lifted os started H enc)

theorem proved : Rows.PoolRoomSaid := over
#print axioms proved
end Go.Proofs.Ytckkdgifjgkoaaa.poolRoom
