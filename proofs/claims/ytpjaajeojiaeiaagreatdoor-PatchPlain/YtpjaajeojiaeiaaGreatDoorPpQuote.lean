/- What quote of package patch does. -/
import Derived.Test.YtpjaajeojiaeiaaGreatDoorPpStep
import Derived.Test.YtpjaajeojiaeiaaGreatDoorRg
namespace Go.Proofs.YtpjaajeojiaeiaaGreatDoor
open Go.ChangeShapes Go.WideShapes Go.ChangeAt Go.RowKit

/-- What an operation yields: this value, a step, a row of steps. -/
inductive Pr where
  | val (c : Value)
  | step (φ : Int → Int)
  | row (n : Nat) (φ : Nat → Int → Int)
def Pr.ok : Pr → Value → World → Prop
  | .val c, v, _ => v = c
  | .step φ, v, u => IsStep u v φ
  | .row n φ, v, u => ∃ g, v = .slice (some ⟨g, 0, none⟩) n n ∧ Steps u g n φ
theorem Pr.on {p : Pr} {v : Value} {u u' : World} (h : p.ok v u) (hb : Below u.heap.size u u') : p.ok v u' := by
  cases p with
  | val c => exact h
  | step φ => exact IsStep.on h hb
  | row n φ =>
    obtain ⟨g, e, s⟩ := h
    exact ⟨g, e, s.on hb⟩
def PrIs (ps : List Pr) (i : Nat) (v : Value) (u : World) : Prop := match ps[i]? with | some p => p.ok v u | none => False
theorem pr_mk {ps : List Pr} {i : Nat} {p : Pr} {v : Value} {u : World} (h : ps[i]? = some p) (hv : p.ok v u) : PrIs ps i v u := by unfold PrIs; rw [h]; exact hv
theorem pr_of {ps : List Pr} {i : Nat} {p : Pr} {v : Value} {u : World} (hv : PrIs ps i v u) (h : ps[i]? = some p) : p.ok v u := by unfold PrIs at hv; rw [h] at hv; exact hv
theorem of_val {ps : List Pr} {i : Nat} {c v : Value} {u : World} (hv : PrIs ps i v u) (h : ps[i]? = some (.val c)) : v = c := pr_of hv h
theorem of_step {ps : List Pr} {i : Nat} {φ : Int → Int} {v : Value} {u : World} (hv : PrIs ps i v u) (h : ps[i]? = some (.step φ)) : IsStep u v φ := pr_of hv h
theorem of_row {ps : List Pr} {i n : Nat} {φ : Nat → Int → Int} {v : Value} {u : World} (hv : PrIs ps i v u) (h : ps[i]? = some (.row n φ)) : ∃ g, v = .slice (some ⟨g, 0, none⟩) n n ∧ Steps u g n φ := pr_of hv h
theorem prIs_on (ps : List Pr) (i : Nat) (v : Value) (u u' : World) (h : PrIs ps i v u) (hb : Below u.heap.size u u') : PrIs ps i v u' := by
  unfold PrIs at h ⊢
  cases hx : ps[i]? with
  | none => rw [hx] at h; exact h
  | some p => rw [hx] at h; exact Pr.on h hb
theorem yields_pr {P : Program} {F : Value → World → Prop} {u : World} {f : FuncId} {args : Array Value} {r : Result Next} (hr : r = .ok (.enter f args) u)
    (h : Calls P f args u fun e u' => ∃ v, e = .returned v ∧ Below u.heap.size u u' ∧ F v u') : yieldsUpon P (fun u u' => Below u.heap.size u u') F u r := by
  rw [hr]
  exact h.mono fun e u' ⟨v, he, hb, hF⟩ => ⟨v, he, hb, hF⟩
theorem wp_region_pr {P : Program} {id : Nat} {l : List Oper} {Q : Exit → Act → World → Prop} {a : Act} {w : World} (hmix : P.follows .mixedOrders = true) (ps : List Pr)
    (htidy : Region.tidyB l.toArray a.tmps.size = true)
    (hop : ∀ (i : Nat) (o : Oper) (b : Act) (u : World), l[i]? = some o → Below w.heap.size w.drew u → (∀ t, (∀ i, dstAt l.toArray i ≠ some t) → b.tmps.getD t undef = a.tmps.getD t undef) →
      (∀ j t, (o.after.any fun e => Region.binds .any e && e.on == j) = true → dstAt l.toArray j = some t → PrIs ps j (b.tmps.getD t undef) u) →
      (Region.wanted o (yielded l.toArray b.tmps) = true ∧ yieldsUpon P (fun u u' => Below u.heap.size u u') (PrIs ps i) u ((execOp b.eval o).run P u)) ∨ (Region.wanted o (yielded l.toArray b.tmps) = false ∧ PrIs ps i undef u))
    (hend : ∀ xs u, xs.length = l.length → Below w.heap.size w.drew u → (∀ i t, i < l.length → dstAt l.toArray i = some t → PrIs ps i (xs.getD i undef) u) → Q .normal (putAll l.toArray xs l.length a) u) : (Code.region id l.toArray true).wp P Q a w := by
  refine wp_region_values hmix (PrIs ps) (fun u u' => Below u.heap.size u u') htidy (fun i v u u' h hb => prIs_on _ i v u u' h hb) (fun u => Below.refl _ _) (fun a b c h h' => h.trans (h'.mono h.size)) (fun i o b u ho hG => hop i o b u ho hG) ?_
  intro b u hG hm
  have e : b = putAll l.toArray (upOf l b) l.length a := met_all_list (vs := upOf l b) htidy (u := u) ⟨hm.defers, hm.size, hm.old, fun i t hi hd => (upOf_at hi hd).symm⟩
  rw [e]
  refine hend _ u (upOf_length l b) hG fun i t hi hd => ?_
  rw [upOf_at hi hd]
  exact hm.new i t hi hd
theorem pdrew {V u : World} {B : Nat} (hb : Below B V.drew u) : Below B V u := ⟨hb.os, hb.tape, hb.output, hb.size, hb.block⟩
theorem steps2 {W : World} {g : Nat} {v1 v2 : Value} {a b : Int → Int} (r : Row W g [v1, v2]) (h1 : IsStep W v1 a) (h2 : IsStep W v2 b) : Steps W g 2 (fun k => if k = 0 then a else b) := fun k hk => by
  have : k = 0 ∨ k = 1 := by omega
  rcases this with rfl | rfl
  · exact ⟨v1, r.cell 0 _ rfl, h1⟩
  · exact ⟨v2, r.cell 1 _ rfl, h2⟩
theorem steps3 {W : World} {g : Nat} {v1 v2 v3 : Value} {a b c : Int → Int} (r : Row W g [v1, v2, v3]) (h1 : IsStep W v1 a) (h2 : IsStep W v2 b) (h3 : IsStep W v3 c) : Steps W g 3 (fun k => if k = 0 then a else if k = 1 then b else c) := fun k hk => by
  have : k = 0 ∨ k = 1 ∨ k = 2 := by omega
  rcases this with rfl | rfl | rfl
  · exact ⟨v1, r.cell 0 _ rfl, h1⟩
  · exact ⟨v2, r.cell 1 _ rfl, h2⟩
  · exact ⟨v3, r.cell 2 _ rfl, h3⟩
theorem list13 {α : Type} {l : List α} (h : l.length = 13) : ∃ c0 c1 c2 c3 c4 c5 c6 c7 c8 c9 c10 c11 c12, l = [c0, c1, c2, c3, c4, c5, c6, c7, c8, c9, c10, c11, c12] := by
  match l, h with
  | [c0, c1, c2, c3, c4, c5, c6, c7, c8, c9, c10, c11, c12], _ => exact ⟨c0, c1, c2, c3, c4, c5, c6, c7, c8, c9, c10, c11, c12, rfl⟩
theorem list14 {α : Type} {l : List α} (h : l.length = 14) : ∃ c0 c1 c2 c3 c4 c5 c6 c7 c8 c9 c10 c11 c12 c13, l = [c0, c1, c2, c3, c4, c5, c6, c7, c8, c9, c10, c11, c12, c13] := by
  match l, h with
  | [c0, c1, c2, c3, c4, c5, c6, c7, c8, c9, c10, c11, c12, c13], _ => exact ⟨c0, c1, c2, c3, c4, c5, c6, c7, c8, c9, c10, c11, c12, c13, rfl⟩

/-- What a check is gone on with: by the addresses, by the ports too, as UDP takes it. -/
def onA (was : Tp) (t : En) : Int → Int := runN (fun k => if k = 0 then adrF was.src t.src else adrF was.dst t.dst) 2
def onP (was : Tp) (t : En) : Int → Int := runN (fun k => if k = 0 then onA was t else if k = 1 then prtF was.sport t.sport else prtF was.dport t.dport) 3
def onE (was : Tp) (t : En) : Int → Int := if was.proto = 17 then udpF (onP was t) else onP was t
def quoA (q : ByteArray) (z : Int) (was : Tp) (t : En) : ByteArray := goOnS (addrS (q.extract 0 z.toNat) t.src t.dst) 10 (onA was t)
def quoB (q : ByteArray) (z : Int) (was : Tp) (t : En) : ByteArray := goOnS (portS (q.extract z.toNat q.size) t.sport t.dport) (Ps.plc was.proto) (onE was t)
def quoS (q : ByteArray) (z : Int) (was : Tp) (t : En) : ByteArray := quoA q z was t ++ quoB q z was t
theorem quoA_le (q : ByteArray) (z : Int) (was : Tp) (t : En) : (quoA q z was t).size ≤ q.size := Nat.le_trans (goOnS_le _ _ _) (Nat.le_trans (addrS_le _ _ _) (by rw [ByteArray.size_extract]; omega))
theorem quoB_le (q : ByteArray) (z : Int) (was : Tp) (t : En) : (quoB q z was t).size ≤ q.size := Nat.le_trans (goOnS_le _ _ _) (Nat.le_trans (portS_le _ _ _) (by rw [ByteArray.size_extract]; omega))

set_option maxRecDepth 100000 in
set_option maxHeartbeats 4000000 in
theorem quote_any (q : ByteArray) (z : Int) (was : Tp) (t : En) (w : World) (hq : q.size ≤ 281474976710) (hz0 : 0 ≤ z) (hz1 : z ≤ q.size) (hA : Ps.U32 was.src ∧ Ps.U32 was.dst) (hT : Ps.U32 t.src ∧ Ps.U32 t.dst) (hP : (0 ≤ was.sport ∧ was.sport ≤ 65535) ∧ (0 ≤ was.dport ∧ was.dport ≤ 65535)) (hQ : (0 ≤ t.sport ∧ t.sport ≤ 65535) ∧ (0 ≤ t.dport ∧ t.dport ≤ 65535)) (hI : Ps.I64 was.proto) :
    Calls Tryz.prog 59 #[.string q, .int .i64 z, was.val, t.val] w fun e w' => e = .returned (.string (quoS q z was t)) ∧ Below w.heap.size w w' := by
  have zA := quoA_le q z was t
  have zB := quoB_le q z was t
  have HS : Hid (quoS q z was t = quoA q z was t ++ quoB q z was t) := rfl
  have e1 : (q.extract 0 z.toNat).size ≤ q.size := by rw [ByteArray.size_extract]; omega
  have e2 : (q.extract z.toNat q.size).size ≤ q.size := by rw [ByteArray.size_extract]; omega
  have e3 := addrS_le (q.extract 0 z.toNat) t.src t.dst
  have e4 := portS_le (q.extract z.toNat q.size) t.sport t.dport
  have HGA := hide (fun u v hv => goOn_any (addrS (q.extract 0 z.toNat) t.src t.dst) 10 v (onA was t) u (by omega) hv)
  have HGB := hide (fun u v hv => goOn_any (portS (q.extract z.toNat q.size) t.sport t.dport) (Ps.plc was.proto) v (onE was t) u (by omega) hv)
  have HWA := hide (fun u => withAddresses_any (q.extract 0 z.toNat) t.src t.dst u (by omega) hT.1 hT.2)
  have HWP := hide (fun u => withPorts_any (q.extract z.toNat q.size) t u (by omega))
  have HPL := hide (fun u => Ps.place_any was.proto u hI)
  have tad := Ic.add_run (quoA q z was t) (quoB q z was t) (by omega) (by omega)
  clear e1 e2 e3 e4 zA zB
  rw [show goOnS (addrS (q.extract 0 z.toNat) t.src t.dst) 10 (onA was t) = quoA q z was t from rfl] at HGA
  rw [show goOnS (portS (q.extract z.toNat q.size) t.sport t.dport) (Ps.plc was.proto) (onE was t) = quoB q z was t from rfl] at HGB
  obtain ⟨H, hH⟩ : ∃ H, q.extract 0 z.toNat = H := ⟨_, rfl⟩
  obtain ⟨R, hR⟩ : ∃ R, q.extract z.toNat q.size = R := ⟨_, rfl⟩
  rw [hH] at HGA HWA
  rw [hR] at HGB HWP
  generalize quoS q z was t = QS at *
  generalize quoA q z was t = QA at *
  generalize quoB q z was t = QB at *
  generalize addrS H t.src t.dst = HA at *
  generalize portS R t.sport t.dport = RA at *
  generalize Ps.plc was.proto = PL at *
  generalize Ps.plcB was.proto = PLB at *
  have rt := (row_new w was.cells 43).on' (alloc_on' _ (.cells t.cells.toArray 27))
  have re := row_new (w.alloc (.cells was.cells.toArray 43)) t.cells 27
  have bel := Below.then (alloc_on' w (.cells was.cells.toArray 43)) (alloc_on' _ (.cells t.cells.toArray 27))
  rw [show (w.alloc (.cells was.cells.toArray 43)).heap.size = w.heap.size + 1 by simp] at re
  go_enter Tryz.func59, Tryz.ntmps59
  go_wp2_with fail
  generalize (w.alloc (.cells was.cells.toArray 43)).alloc (.cells t.cells.toArray 27) = W0 at *
  refine wp_region_pr (by kernel_rfl) [.val (.pointer (some ⟨w.heap.size, 1, none⟩)), .val (.int .u32 was.src), .val (.pointer (some ⟨w.heap.size + 1, 0, none⟩)), .val (.int .u32 t.src), .step (adrF was.src t.src), .val (.pointer (some ⟨w.heap.size, 2, none⟩)), .val (.int .u32 was.dst), .val (.pointer (some ⟨w.heap.size + 1, 1, none⟩)), .val (.int .u32 t.dst), .step (adrF was.dst t.dst), .row 2 (fun k => if k = 0 then adrF was.src t.src else adrF was.dst t.dst), .step (onA was t), .step (onA was t)] (by kernel_rfl) ?op ?fin
  case op =>
    intro i o bx u ho hbel hold hdeps
    match i, ho with
    | 0, ho =>
      obtain rfl := Option.some.inj ho
      have d6 : bx.tmps.getD 6 undef = (.pointer (some ⟨w.heap.size, 0, none⟩)) := hold 6 (base_of (by kernel_rfl))
      refine .inl ⟨rfl, yields_value (v := (.pointer (some ⟨w.heap.size, 1, none⟩))) (u' := u) ?_ (Below.refl _ _) (pr_mk (p := .val (.pointer (some ⟨w.heap.size, 1, none⟩))) (by kernel_rfl) rfl)⟩
      simp [Act.eval, d6, go_sem]
    | 1, ho =>
      obtain rfl := Option.some.inj ho
      have d15 : bx.tmps.getD 15 undef = (.pointer (some ⟨w.heap.size, 1, none⟩)) := of_val (hdeps 0 15 (by kernel_rfl) (by kernel_rfl)) (by kernel_rfl)
      have hl := ((rt.on' (pdrew hbel)).cell 1 _ rfl)
      refine .inl ⟨rfl, yields_value (v := (.int .u32 was.src)) (u' := u) ?_ (Below.refl _ _) (pr_mk (p := .val (.int .u32 was.src)) (by kernel_rfl) rfl)⟩
      simp [Act.eval, d15, hl, go_sem]
    | 2, ho =>
      obtain rfl := Option.some.inj ho
      have d7 : bx.tmps.getD 7 undef = (.pointer (some ⟨w.heap.size + 1, 0, none⟩)) := hold 7 (base_of (by kernel_rfl))
      refine .inl ⟨rfl, yields_value (v := (.pointer (some ⟨w.heap.size + 1, 0, none⟩))) (u' := u) ?_ (Below.refl _ _) (pr_mk (p := .val (.pointer (some ⟨w.heap.size + 1, 0, none⟩))) (by kernel_rfl) rfl)⟩
      simp [Act.eval, d7, go_sem]
    | 3, ho =>
      obtain rfl := Option.some.inj ho
      have d17 : bx.tmps.getD 17 undef = (.pointer (some ⟨w.heap.size + 1, 0, none⟩)) := of_val (hdeps 2 17 (by kernel_rfl) (by kernel_rfl)) (by kernel_rfl)
      have hl := ((re.on' (pdrew hbel)).cell 0 _ rfl)
      refine .inl ⟨rfl, yields_value (v := (.int .u32 t.src)) (u' := u) ?_ (Below.refl _ _) (pr_mk (p := .val (.int .u32 t.src)) (by kernel_rfl) rfl)⟩
      simp [Act.eval, d17, hl, go_sem]
    | 4, ho =>
      obtain rfl := Option.some.inj ho
      have d16 : bx.tmps.getD 16 undef = (.int .u32 was.src) := of_val (hdeps 1 16 (by kernel_rfl) (by kernel_rfl)) (by kernel_rfl)
      have d18 : bx.tmps.getD 18 undef = (.int .u32 t.src) := of_val (hdeps 3 18 (by kernel_rfl) (by kernel_rfl)) (by kernel_rfl)
      refine .inl ⟨rfl, yields_pr (f := 95) (args := #[.int .u32 was.src, .int .u32 t.src]) ?_ ((address_any was.src t.src u hA.1 hT.1).mono fun e u' ⟨v, he, hs, hb⟩ => ⟨v, he, hb, pr_mk (p := .step (adrF was.src t.src)) (by kernel_rfl) hs⟩)⟩
      simp [Act.eval, d16, d18, go_sem]
    | 5, ho =>
      obtain rfl := Option.some.inj ho
      have d6 : bx.tmps.getD 6 undef = (.pointer (some ⟨w.heap.size, 0, none⟩)) := hold 6 (base_of (by kernel_rfl))
      refine .inl ⟨rfl, yields_value (v := (.pointer (some ⟨w.heap.size, 2, none⟩))) (u' := u) ?_ (Below.refl _ _) (pr_mk (p := .val (.pointer (some ⟨w.heap.size, 2, none⟩))) (by kernel_rfl) rfl)⟩
      simp [Act.eval, d6, go_sem]
    | 6, ho =>
      obtain rfl := Option.some.inj ho
      have d20 : bx.tmps.getD 20 undef = (.pointer (some ⟨w.heap.size, 2, none⟩)) := of_val (hdeps 5 20 (by kernel_rfl) (by kernel_rfl)) (by kernel_rfl)
      have hl := ((rt.on' (pdrew hbel)).cell 2 _ rfl)
      refine .inl ⟨rfl, yields_value (v := (.int .u32 was.dst)) (u' := u) ?_ (Below.refl _ _) (pr_mk (p := .val (.int .u32 was.dst)) (by kernel_rfl) rfl)⟩
      simp [Act.eval, d20, hl, go_sem]
    | 7, ho =>
      obtain rfl := Option.some.inj ho
      have d7 : bx.tmps.getD 7 undef = (.pointer (some ⟨w.heap.size + 1, 0, none⟩)) := hold 7 (base_of (by kernel_rfl))
      refine .inl ⟨rfl, yields_value (v := (.pointer (some ⟨w.heap.size + 1, 1, none⟩))) (u' := u) ?_ (Below.refl _ _) (pr_mk (p := .val (.pointer (some ⟨w.heap.size + 1, 1, none⟩))) (by kernel_rfl) rfl)⟩
      simp [Act.eval, d7, go_sem]
    | 8, ho =>
      obtain rfl := Option.some.inj ho
      have d22 : bx.tmps.getD 22 undef = (.pointer (some ⟨w.heap.size + 1, 1, none⟩)) := of_val (hdeps 7 22 (by kernel_rfl) (by kernel_rfl)) (by kernel_rfl)
      have hl := ((re.on' (pdrew hbel)).cell 1 _ rfl)
      refine .inl ⟨rfl, yields_value (v := (.int .u32 t.dst)) (u' := u) ?_ (Below.refl _ _) (pr_mk (p := .val (.int .u32 t.dst)) (by kernel_rfl) rfl)⟩
      simp [Act.eval, d22, hl, go_sem]
    | 9, ho =>
      obtain rfl := Option.some.inj ho
      have d21 : bx.tmps.getD 21 undef = (.int .u32 was.dst) := of_val (hdeps 6 21 (by kernel_rfl) (by kernel_rfl)) (by kernel_rfl)
      have d23 : bx.tmps.getD 23 undef = (.int .u32 t.dst) := of_val (hdeps 8 23 (by kernel_rfl) (by kernel_rfl)) (by kernel_rfl)
      refine .inl ⟨rfl, yields_pr (f := 95) (args := #[.int .u32 was.dst, .int .u32 t.dst]) ?_ ((address_any was.dst t.dst u hA.2 hT.2).mono fun e u' ⟨v, he, hs, hb⟩ => ⟨v, he, hb, pr_mk (p := .step (adrF was.dst t.dst)) (by kernel_rfl) hs⟩)⟩
      simp [Act.eval, d21, d23, go_sem]
    | 10, ho =>
      obtain rfl := Option.some.inj ho
      obtain ⟨v19, d19, s19⟩ : ∃ v, bx.tmps.getD 19 undef = v ∧ IsStep u v (adrF was.src t.src) := ⟨_, rfl, of_step (hdeps 4 19 (by kernel_rfl) (by kernel_rfl)) (by kernel_rfl)⟩
      have q19 : bx.tmps[19]?.getD undef = v19 := by rw [← Array.getD_eq_getD_getElem?]; exact d19
      obtain ⟨v24, d24, s24⟩ : ∃ v, bx.tmps.getD 24 undef = v ∧ IsStep u v (adrF was.dst t.dst) := ⟨_, rfl, of_step (hdeps 9 24 (by kernel_rfl) (by kernel_rfl)) (by kernel_rfl)⟩
      have q24 : bx.tmps[24]?.getD undef = v24 := by rw [← Array.getD_eq_getD_getElem?]; exact d24
      have s19' := s19
      obtain ⟨k19, C19, e19, -⟩ := s19'
      subst e19
      have s24' := s24
      obtain ⟨k24, C24, e24, -⟩ := s24'
      subst e24
      refine .inl ⟨rfl, yields_value (v := .slice (some ⟨u.heap.size, 0, none⟩) 2 2) (u' := u.alloc (.cells #[.func (.func k19) #[] C19, .func (.func k24) #[] C24] 139)) ?_ (alloc_on' _ _) (pr_mk (p := .row 2 (fun k => if k = 0 then adrF was.src t.src else adrF was.dst t.dst)) (by kernel_rfl) ⟨u.heap.size, rfl, steps2 (row_new u [.func (.func k19) #[] C19, .func (.func k24) #[] C24] 139) (s19.on (alloc_on' _ _)) (s24.on (alloc_on' _ _))⟩)⟩
      simp [Act.eval, q19, q24, go_sem]
    | 11, ho =>
      obtain rfl := Option.some.inj ho
      obtain ⟨g25, d25, s25⟩ : ∃ g, bx.tmps.getD 25 undef = .slice (some ⟨g, 0, none⟩) 2 2 ∧ Steps u g 2 (fun k => if k = 0 then adrF was.src t.src else adrF was.dst t.dst) := of_row (hdeps 10 25 (by kernel_rfl) (by kernel_rfl)) (by kernel_rfl)
      refine .inl ⟨rfl, yields_pr (f := 94) (args := #[.slice (some ⟨g25, 0, none⟩) 2 2]) ?_ ((chain_any g25 2 _ u (by decide) s25).mono fun e u' ⟨v, he, hs, hb⟩ => ⟨v, he, hb, pr_mk (p := .step (onA was t)) (by kernel_rfl) hs⟩)⟩
      simp [Act.eval, d25, go_sem]
    | 12, ho =>
      obtain rfl := Option.some.inj ho
      obtain ⟨v26, d26, s26⟩ : ∃ v, bx.tmps.getD 26 undef = v ∧ IsStep u v (onA was t) := ⟨_, rfl, of_step (hdeps 11 26 (by kernel_rfl) (by kernel_rfl)) (by kernel_rfl)⟩
      refine .inl ⟨rfl, yields_value (v := v26) (u' := u) ?_ (Below.refl _ _) (pr_mk (p := .step (onA was t)) (by kernel_rfl) s26)⟩
      simp [execOp, Act.eval, d26]
    | n + 13, ho => exact absurd ho (by simp)
  case fin =>
    intro xs u hlen hbel hF
    obtain ⟨x0, x1, x2, x3, x4, x5, x6, x7, x8, x9, x10, x11, x12, rfl⟩ := list13 (l := xs) hlen
    obtain rfl : x0 = (.pointer (some ⟨w.heap.size, 1, none⟩)) := of_val (hF 0 15 (by decide) (by kernel_rfl)) (by kernel_rfl)
    obtain rfl : x1 = (.int .u32 was.src) := of_val (hF 1 16 (by decide) (by kernel_rfl)) (by kernel_rfl)
    obtain rfl : x2 = (.pointer (some ⟨w.heap.size + 1, 0, none⟩)) := of_val (hF 2 17 (by decide) (by kernel_rfl)) (by kernel_rfl)
    obtain rfl : x3 = (.int .u32 t.src) := of_val (hF 3 18 (by decide) (by kernel_rfl)) (by kernel_rfl)
    obtain rfl : x5 = (.pointer (some ⟨w.heap.size, 2, none⟩)) := of_val (hF 5 20 (by decide) (by kernel_rfl)) (by kernel_rfl)
    obtain rfl : x6 = (.int .u32 was.dst) := of_val (hF 6 21 (by decide) (by kernel_rfl)) (by kernel_rfl)
    obtain rfl : x7 = (.pointer (some ⟨w.heap.size + 1, 1, none⟩)) := of_val (hF 7 22 (by decide) (by kernel_rfl)) (by kernel_rfl)
    obtain rfl : x8 = (.int .u32 t.dst) := of_val (hF 8 23 (by decide) (by kernel_rfl)) (by kernel_rfl)
    have hstep : IsStep u x12 (onA was t) := of_step (hF 12 9 (by decide) (by kernel_rfl)) (by kernel_rfl)
    clear hF hlen
    simp [putAll, dstAt, Act.put]
    replace rt := rt.on' (pdrew hbel)
    replace re := re.on' (pdrew hbel)
    replace bel := Below.then bel (pdrew hbel)
    obtain ⟨va, hva⟩ : ∃ v, x12 = v := ⟨_, rfl⟩
    rw [hva] at hstep ⊢
    have sa := hstep
    clear hbel hstep hva
    go_wp2_with fail
    refine wp_region_pr (by kernel_rfl) [.step (onA was t), .val (.pointer (some ⟨w.heap.size, 3, none⟩)), .val (.int .i64 was.sport), .val (.pointer (some ⟨w.heap.size + 1, 2, none⟩)), .val (.int .i64 t.sport), .step (prtF was.sport t.sport), .val (.pointer (some ⟨w.heap.size, 4, none⟩)), .val (.int .i64 was.dport), .val (.pointer (some ⟨w.heap.size + 1, 3, none⟩)), .val (.int .i64 t.dport), .step (prtF was.dport t.dport), .row 3 (fun k => if k = 0 then onA was t else if k = 1 then prtF was.sport t.sport else prtF was.dport t.dport), .step (onP was t), .step (onP was t)] (by kernel_rfl) ?op ?fin
    case op =>
      intro i o bx u ho hbel hold hdeps
      match i, ho with
      | 0, ho =>
        obtain rfl := Option.some.inj ho
        have d9 : bx.tmps.getD 9 undef = va := hold 9 (base_of (by kernel_rfl))
        have s9 := sa.on (pdrew hbel)
        refine .inl ⟨rfl, yields_value (v := va) (u' := u) ?_ (Below.refl _ _) (pr_mk (p := .step (onA was t)) (by kernel_rfl) s9)⟩
        simp [execOp, Act.eval, d9]
      | 1, ho =>
        obtain rfl := Option.some.inj ho
        have d6 : bx.tmps.getD 6 undef = (.pointer (some ⟨w.heap.size, 0, none⟩)) := hold 6 (base_of (by kernel_rfl))
        refine .inl ⟨rfl, yields_value (v := (.pointer (some ⟨w.heap.size, 3, none⟩))) (u' := u) ?_ (Below.refl _ _) (pr_mk (p := .val (.pointer (some ⟨w.heap.size, 3, none⟩))) (by kernel_rfl) rfl)⟩
        simp [Act.eval, d6, go_sem]
      | 2, ho =>
        obtain rfl := Option.some.inj ho
        have d28 : bx.tmps.getD 28 undef = (.pointer (some ⟨w.heap.size, 3, none⟩)) := of_val (hdeps 1 28 (by kernel_rfl) (by kernel_rfl)) (by kernel_rfl)
        have hl := ((rt.on' (pdrew hbel)).cell 3 _ rfl)
        refine .inl ⟨rfl, yields_value (v := (.int .i64 was.sport)) (u' := u) ?_ (Below.refl _ _) (pr_mk (p := .val (.int .i64 was.sport)) (by kernel_rfl) rfl)⟩
        simp [Act.eval, d28, hl, go_sem]
      | 3, ho =>
        obtain rfl := Option.some.inj ho
        have d7 : bx.tmps.getD 7 undef = (.pointer (some ⟨w.heap.size + 1, 0, none⟩)) := hold 7 (base_of (by kernel_rfl))
        refine .inl ⟨rfl, yields_value (v := (.pointer (some ⟨w.heap.size + 1, 2, none⟩))) (u' := u) ?_ (Below.refl _ _) (pr_mk (p := .val (.pointer (some ⟨w.heap.size + 1, 2, none⟩))) (by kernel_rfl) rfl)⟩
        simp [Act.eval, d7, go_sem]
      | 4, ho =>
        obtain rfl := Option.some.inj ho
        have d30 : bx.tmps.getD 30 undef = (.pointer (some ⟨w.heap.size + 1, 2, none⟩)) := of_val (hdeps 3 30 (by kernel_rfl) (by kernel_rfl)) (by kernel_rfl)
        have hl := ((re.on' (pdrew hbel)).cell 2 _ rfl)
        refine .inl ⟨rfl, yields_value (v := (.int .i64 t.sport)) (u' := u) ?_ (Below.refl _ _) (pr_mk (p := .val (.int .i64 t.sport)) (by kernel_rfl) rfl)⟩
        simp [Act.eval, d30, hl, go_sem]
      | 5, ho =>
        obtain rfl := Option.some.inj ho
        have d29 : bx.tmps.getD 29 undef = (.int .i64 was.sport) := of_val (hdeps 2 29 (by kernel_rfl) (by kernel_rfl)) (by kernel_rfl)
        have d31 : bx.tmps.getD 31 undef = (.int .i64 t.sport) := of_val (hdeps 4 31 (by kernel_rfl) (by kernel_rfl)) (by kernel_rfl)
        refine .inl ⟨rfl, yields_pr (f := 96) (args := #[.int .i64 was.sport, .int .i64 t.sport]) ?_ ((port_any was.sport t.sport u hP.1 hQ.1).mono fun e u' ⟨v, he, hs, hb⟩ => ⟨v, he, hb, pr_mk (p := .step (prtF was.sport t.sport)) (by kernel_rfl) hs⟩)⟩
        simp [Act.eval, d29, d31, go_sem]
      | 6, ho =>
        obtain rfl := Option.some.inj ho
        have d6 : bx.tmps.getD 6 undef = (.pointer (some ⟨w.heap.size, 0, none⟩)) := hold 6 (base_of (by kernel_rfl))
        refine .inl ⟨rfl, yields_value (v := (.pointer (some ⟨w.heap.size, 4, none⟩))) (u' := u) ?_ (Below.refl _ _) (pr_mk (p := .val (.pointer (some ⟨w.heap.size, 4, none⟩))) (by kernel_rfl) rfl)⟩
        simp [Act.eval, d6, go_sem]
      | 7, ho =>
        obtain rfl := Option.some.inj ho
        have d33 : bx.tmps.getD 33 undef = (.pointer (some ⟨w.heap.size, 4, none⟩)) := of_val (hdeps 6 33 (by kernel_rfl) (by kernel_rfl)) (by kernel_rfl)
        have hl := ((rt.on' (pdrew hbel)).cell 4 _ rfl)
        refine .inl ⟨rfl, yields_value (v := (.int .i64 was.dport)) (u' := u) ?_ (Below.refl _ _) (pr_mk (p := .val (.int .i64 was.dport)) (by kernel_rfl) rfl)⟩
        simp [Act.eval, d33, hl, go_sem]
      | 8, ho =>
        obtain rfl := Option.some.inj ho
        have d7 : bx.tmps.getD 7 undef = (.pointer (some ⟨w.heap.size + 1, 0, none⟩)) := hold 7 (base_of (by kernel_rfl))
        refine .inl ⟨rfl, yields_value (v := (.pointer (some ⟨w.heap.size + 1, 3, none⟩))) (u' := u) ?_ (Below.refl _ _) (pr_mk (p := .val (.pointer (some ⟨w.heap.size + 1, 3, none⟩))) (by kernel_rfl) rfl)⟩
        simp [Act.eval, d7, go_sem]
      | 9, ho =>
        obtain rfl := Option.some.inj ho
        have d35 : bx.tmps.getD 35 undef = (.pointer (some ⟨w.heap.size + 1, 3, none⟩)) := of_val (hdeps 8 35 (by kernel_rfl) (by kernel_rfl)) (by kernel_rfl)
        have hl := ((re.on' (pdrew hbel)).cell 3 _ rfl)
        refine .inl ⟨rfl, yields_value (v := (.int .i64 t.dport)) (u' := u) ?_ (Below.refl _ _) (pr_mk (p := .val (.int .i64 t.dport)) (by kernel_rfl) rfl)⟩
        simp [Act.eval, d35, hl, go_sem]
      | 10, ho =>
        obtain rfl := Option.some.inj ho
        have d34 : bx.tmps.getD 34 undef = (.int .i64 was.dport) := of_val (hdeps 7 34 (by kernel_rfl) (by kernel_rfl)) (by kernel_rfl)
        have d36 : bx.tmps.getD 36 undef = (.int .i64 t.dport) := of_val (hdeps 9 36 (by kernel_rfl) (by kernel_rfl)) (by kernel_rfl)
        refine .inl ⟨rfl, yields_pr (f := 96) (args := #[.int .i64 was.dport, .int .i64 t.dport]) ?_ ((port_any was.dport t.dport u hP.2 hQ.2).mono fun e u' ⟨v, he, hs, hb⟩ => ⟨v, he, hb, pr_mk (p := .step (prtF was.dport t.dport)) (by kernel_rfl) hs⟩)⟩
        simp [Act.eval, d34, d36, go_sem]
      | 11, ho =>
        obtain rfl := Option.some.inj ho
        obtain ⟨v27, d27, s27⟩ : ∃ v, bx.tmps.getD 27 undef = v ∧ IsStep u v (onA was t) := ⟨_, rfl, of_step (hdeps 0 27 (by kernel_rfl) (by kernel_rfl)) (by kernel_rfl)⟩
        have q27 : bx.tmps[27]?.getD undef = v27 := by rw [← Array.getD_eq_getD_getElem?]; exact d27
        obtain ⟨v32, d32, s32⟩ : ∃ v, bx.tmps.getD 32 undef = v ∧ IsStep u v (prtF was.sport t.sport) := ⟨_, rfl, of_step (hdeps 5 32 (by kernel_rfl) (by kernel_rfl)) (by kernel_rfl)⟩
        have q32 : bx.tmps[32]?.getD undef = v32 := by rw [← Array.getD_eq_getD_getElem?]; exact d32
        obtain ⟨v37, d37, s37⟩ : ∃ v, bx.tmps.getD 37 undef = v ∧ IsStep u v (prtF was.dport t.dport) := ⟨_, rfl, of_step (hdeps 10 37 (by kernel_rfl) (by kernel_rfl)) (by kernel_rfl)⟩
        have q37 : bx.tmps[37]?.getD undef = v37 := by rw [← Array.getD_eq_getD_getElem?]; exact d37
        have s27' := s27
        obtain ⟨k27, C27, e27, -⟩ := s27'
        subst e27
        have s32' := s32
        obtain ⟨k32, C32, e32, -⟩ := s32'
        subst e32
        have s37' := s37
        obtain ⟨k37, C37, e37, -⟩ := s37'
        subst e37
        refine .inl ⟨rfl, yields_value (v := .slice (some ⟨u.heap.size, 0, none⟩) 3 3) (u' := u.alloc (.cells #[.func (.func k27) #[] C27, .func (.func k32) #[] C32, .func (.func k37) #[] C37] 139)) ?_ (alloc_on' _ _) (pr_mk (p := .row 3 (fun k => if k = 0 then onA was t else if k = 1 then prtF was.sport t.sport else prtF was.dport t.dport)) (by kernel_rfl) ⟨u.heap.size, rfl, steps3 (row_new u [.func (.func k27) #[] C27, .func (.func k32) #[] C32, .func (.func k37) #[] C37] 139) (s27.on (alloc_on' _ _)) (s32.on (alloc_on' _ _)) (s37.on (alloc_on' _ _))⟩)⟩
        simp [Act.eval, q27, q32, q37, go_sem]
      | 12, ho =>
        obtain rfl := Option.some.inj ho
        obtain ⟨g38, d38, s38⟩ : ∃ g, bx.tmps.getD 38 undef = .slice (some ⟨g, 0, none⟩) 3 3 ∧ Steps u g 3 (fun k => if k = 0 then onA was t else if k = 1 then prtF was.sport t.sport else prtF was.dport t.dport) := of_row (hdeps 11 38 (by kernel_rfl) (by kernel_rfl)) (by kernel_rfl)
        refine .inl ⟨rfl, yields_pr (f := 94) (args := #[.slice (some ⟨g38, 0, none⟩) 3 3]) ?_ ((chain_any g38 3 _ u (by decide) s38).mono fun e u' ⟨v, he, hs, hb⟩ => ⟨v, he, hb, pr_mk (p := .step (onP was t)) (by kernel_rfl) hs⟩)⟩
        simp [Act.eval, d38, go_sem]
      | 13, ho =>
        obtain rfl := Option.some.inj ho
        obtain ⟨v39, d39, s39⟩ : ∃ v, bx.tmps.getD 39 undef = v ∧ IsStep u v (onP was t) := ⟨_, rfl, of_step (hdeps 12 39 (by kernel_rfl) (by kernel_rfl)) (by kernel_rfl)⟩
        refine .inl ⟨rfl, yields_value (v := v39) (u' := u) ?_ (Below.refl _ _) (pr_mk (p := .step (onP was t)) (by kernel_rfl) s39)⟩
        simp [execOp, Act.eval, d39]
      | n + 14, ho => exact absurd ho (by simp)
    case fin =>
      intro xs u hlen hbel hF
      obtain ⟨x0, x1, x2, x3, x4, x5, x6, x7, x8, x9, x10, x11, x12, x13, rfl⟩ := list14 (l := xs) hlen
      obtain rfl : x1 = (.pointer (some ⟨w.heap.size, 3, none⟩)) := of_val (hF 1 28 (by decide) (by kernel_rfl)) (by kernel_rfl)
      obtain rfl : x2 = (.int .i64 was.sport) := of_val (hF 2 29 (by decide) (by kernel_rfl)) (by kernel_rfl)
      obtain rfl : x3 = (.pointer (some ⟨w.heap.size + 1, 2, none⟩)) := of_val (hF 3 30 (by decide) (by kernel_rfl)) (by kernel_rfl)
      obtain rfl : x4 = (.int .i64 t.sport) := of_val (hF 4 31 (by decide) (by kernel_rfl)) (by kernel_rfl)
      obtain rfl : x6 = (.pointer (some ⟨w.heap.size, 4, none⟩)) := of_val (hF 6 33 (by decide) (by kernel_rfl)) (by kernel_rfl)
      obtain rfl : x7 = (.int .i64 was.dport) := of_val (hF 7 34 (by decide) (by kernel_rfl)) (by kernel_rfl)
      obtain rfl : x8 = (.pointer (some ⟨w.heap.size + 1, 3, none⟩)) := of_val (hF 8 35 (by decide) (by kernel_rfl)) (by kernel_rfl)
      obtain rfl : x9 = (.int .i64 t.dport) := of_val (hF 9 36 (by decide) (by kernel_rfl)) (by kernel_rfl)
      have hstep : IsStep u x13 (onP was t) := of_step (hF 13 10 (by decide) (by kernel_rfl)) (by kernel_rfl)
      clear hF hlen
      simp [putAll, dstAt, Act.put]
      replace rt := rt.on' (pdrew hbel)
      replace re := re.on' (pdrew hbel)
      replace sa := sa.on (pdrew hbel)
      replace bel := Below.then bel (pdrew hbel)
      have sq := hstep
      clear hbel hstep
      have c0 := rt.cell 0 _ rfl
      by_cases h17 : was.proto = 17
      · have t17 : (was.proto == 17) = true := by simpa using h17
        have hE : onE was t = udpF (onP was t) := if_pos h17
        rw [hE] at HGB
        have HT := hide h17
        clear h17 hE
        go_wp2_with fail
        refine (unlessNone_any _ _ _ sq).mono ?_
        rintro e u3 ⟨vq, rfl, sq3, hb⟩
        replace re := re.on' hb
        replace rt := rt.on' hb
        have c0 := rt.cell 0 _ rfl
        replace sa := sa.on hb
        replace bel := Below.then bel hb
        clear hb sq
        go_wp2_with fail
        refine (unhide HPL _).mono ?_
        rintro e u6 ⟨rfl, hb⟩
        replace re := re.on' hb
        replace sa := sa.on hb
        have sp := (sq3).on hb
        replace bel := Below.then bel hb
        clear hb rt
        go_wp2_with fail
        refine wp_region_grow (by kernel_rfl) [.string q, .int .i64 z, .string H, .pointer (some ⟨w.heap.size + 1, 0, none⟩), .int .u32 t.src, .pointer (some ⟨w.heap.size + 1, 1, none⟩), .int .u32 t.dst, .string HA, .string HA] (by kernel_rfl) ?op ?fin
        case op =>
          intro i o bx u ho hbel hS
          match i, ho with
          | 0, ho =>
            obtain rfl := Option.some.inj ho
            have d0 : bx.tmps.getD 0 undef = .string q := hS.base 0 (by kernel_rfl)
            refine .inl ⟨rfl, ends_value' (c := .string q) ?_⟩
            simp [execOp, Act.eval, d0]
          | 1, ho =>
            obtain rfl := Option.some.inj ho
            have d1 : bx.tmps.getD 1 undef = .int .i64 z := hS.base 1 (by kernel_rfl)
            refine .inl ⟨rfl, ends_value' (c := .int .i64 z) ?_⟩
            simp [execOp, Act.eval, d1]
          | 2, ho =>
            obtain rfl := Option.some.inj ho
            have d51 : bx.tmps.getD 51 undef = .string q := hS.dep 0 51 (by kernel_rfl) (by kernel_rfl)
            have d52 : bx.tmps.getD 52 undef = .int .i64 z := hS.dep 1 52 (by kernel_rfl) (by kernel_rfl)
            refine .inl ⟨rfl, ends_value' (c := .string H) ?_⟩
            simp [Act.eval, d51, d52, go_sem, hH, hz0, hz1]
          | 3, ho =>
            obtain rfl := Option.some.inj ho
            have d7 : bx.tmps.getD 7 undef = .pointer (some ⟨w.heap.size + 1, 0, none⟩) := hS.base 7 (by kernel_rfl)
            refine .inl ⟨rfl, ends_value' (c := .pointer (some ⟨w.heap.size + 1, 0, none⟩)) ?_⟩
            simp [Act.eval, d7, go_sem]
          | 4, ho =>
            obtain rfl := Option.some.inj ho
            have d54 : bx.tmps.getD 54 undef = .pointer (some ⟨w.heap.size + 1, 0, none⟩) := hS.dep 3 54 (by kernel_rfl) (by kernel_rfl)
            have hl := ((re.on' (pdrew hbel)).cell 0 _ rfl)
            refine .inl ⟨rfl, ends_value' (c := .int .u32 t.src) ?_⟩
            simp [Act.eval, d54, go_sem, hl]
          | 5, ho =>
            obtain rfl := Option.some.inj ho
            have d7 : bx.tmps.getD 7 undef = .pointer (some ⟨w.heap.size + 1, 0, none⟩) := hS.base 7 (by kernel_rfl)
            refine .inl ⟨rfl, ends_value' (c := .pointer (some ⟨w.heap.size + 1, 1, none⟩)) ?_⟩
            simp [Act.eval, d7, go_sem]
          | 6, ho =>
            obtain rfl := Option.some.inj ho
            have d56 : bx.tmps.getD 56 undef = .pointer (some ⟨w.heap.size + 1, 1, none⟩) := hS.dep 5 56 (by kernel_rfl) (by kernel_rfl)
            have hl := ((re.on' (pdrew hbel)).cell 1 _ rfl)
            refine .inl ⟨rfl, ends_value' (c := .int .u32 t.dst) ?_⟩
            simp [Act.eval, d56, go_sem, hl]
          | 7, ho =>
            obtain rfl := Option.some.inj ho
            have d53 : bx.tmps.getD 53 undef = .string H := hS.dep 2 53 (by kernel_rfl) (by kernel_rfl)
            have d55 : bx.tmps.getD 55 undef = .int .u32 t.src := hS.dep 4 55 (by kernel_rfl) (by kernel_rfl)
            have d57 : bx.tmps.getD 57 undef = .int .u32 t.dst := hS.dep 6 57 (by kernel_rfl) (by kernel_rfl)
            refine .inl ⟨rfl, ends_call' (c := .string HA) (f := 49) (args := #[.string H, .int .u32 t.src, .int .u32 t.dst]) ?_ (unhide HWA u)⟩
            simp [Act.eval, d53, d55, d57, go_sem]
          | 8, ho =>
            obtain rfl := Option.some.inj ho
            have d58 : bx.tmps.getD 58 undef = .string HA := hS.dep 7 58 (by kernel_rfl) (by kernel_rfl)
            refine .inl ⟨rfl, ends_value' (c := .string HA) ?_⟩
            simp [execOp, Act.eval, d58]
          | n + 9, ho => exact absurd ho (by simp)
        case fin =>
          intro u hbel
          simp [putAll, dstAt, Act.put]
          replace re := re.on' (pdrew hbel)
          replace sa := sa.on (pdrew hbel)
          replace sp := sp.on (pdrew hbel)
          replace bel := Below.then bel (pdrew hbel)
          clear hbel
          go_wp2_with fail
          refine wp_region_grow (by kernel_rfl) [.string q, .int .i64 z, .string R, t.val, .string RA, .string RA] (by kernel_rfl) ?op ?fin
          case op =>
            intro i o bx u ho hbel hS
            match i, ho with
            | 0, ho =>
              obtain rfl := Option.some.inj ho
              have d0 : bx.tmps.getD 0 undef = .string q := hS.base 0 (by kernel_rfl)
              refine .inl ⟨rfl, ends_value' (c := .string q) ?_⟩
              simp [execOp, Act.eval, d0]
            | 1, ho =>
              obtain rfl := Option.some.inj ho
              have d1 : bx.tmps.getD 1 undef = .int .i64 z := hS.base 1 (by kernel_rfl)
              refine .inl ⟨rfl, ends_value' (c := .int .i64 z) ?_⟩
              simp [execOp, Act.eval, d1]
            | 2, ho =>
              obtain rfl := Option.some.inj ho
              have d59 : bx.tmps.getD 59 undef = .string q := hS.dep 0 59 (by kernel_rfl) (by kernel_rfl)
              have d60 : bx.tmps.getD 60 undef = .int .i64 z := hS.dep 1 60 (by kernel_rfl) (by kernel_rfl)
              refine .inl ⟨rfl, ends_value' (c := .string R) ?_⟩
              simp [Act.eval, d59, d60, go_sem, hR, hz0, hz1]
            | 3, ho =>
              obtain rfl := Option.some.inj ho
              have d7 : bx.tmps.getD 7 undef = .pointer (some ⟨w.heap.size + 1, 0, none⟩) := hS.base 7 (by kernel_rfl)
              refine .inl ⟨rfl, ends_value' (c := t.val) ?_⟩
              simp [Act.eval, d7, go_sem, ((re.on' (pdrew hbel)).cell 0 _ rfl), ((re.on' (pdrew hbel)).cell 1 _ rfl), ((re.on' (pdrew hbel)).cell 2 _ rfl), ((re.on' (pdrew hbel)).cell 3 _ rfl)]
            | 4, ho =>
              obtain rfl := Option.some.inj ho
              have d61 : bx.tmps.getD 61 undef = .string R := hS.dep 2 61 (by kernel_rfl) (by kernel_rfl)
              have d62 : bx.tmps.getD 62 undef = t.val := hS.dep 3 62 (by kernel_rfl) (by kernel_rfl)
              refine .inl ⟨rfl, ends_call' (c := .string RA) (f := 52) (args := #[.string R, t.val]) ?_ (unhide HWP u)⟩
              simp [Act.eval, d61, d62, go_sem]
            | 5, ho =>
              obtain rfl := Option.some.inj ho
              have d63 : bx.tmps.getD 63 undef = .string RA := hS.dep 4 63 (by kernel_rfl) (by kernel_rfl)
              refine .inl ⟨rfl, ends_value' (c := .string RA) ?_⟩
              simp [execOp, Act.eval, d63]
            | n + 6, ho => exact absurd ho (by simp)
          case fin =>
            intro u hbel
            simp [putAll, dstAt, Act.put]
            replace sa := sa.on (pdrew hbel)
            replace sp := sp.on (pdrew hbel)
            replace bel := Below.then bel (pdrew hbel)
            clear hbel re
            go_wp2_with fail
            refine (unhide HGA _ _ sa).mono ?_
            rintro e u8 ⟨rfl, hb⟩
            replace sp := sp.on hb
            replace bel := Below.then bel hb
            clear hb sa
            go_wp2_with fail
            refine (unhide HGB _ _ sp).mono ?_
            rintro e u9 ⟨rfl, hb⟩
            replace bel := Below.then bel hb
            clear hb sp
            go_wp2_with fail
            go_ret
            exact ⟨ret_str' (unhide HS).symm, bel⟩
      · have t17 : (was.proto == 17) = false := by simpa using h17
        have hE : onE was t = onP was t := if_neg h17
        rw [hE] at HGB
        have HT := hide h17
        clear h17 hE
        go_wp2_with fail
        refine (unhide HPL _).mono ?_
        rintro e u6 ⟨rfl, hb⟩
        replace re := re.on' hb
        replace sa := sa.on hb
        have sp := (sq).on hb
        replace bel := Below.then bel hb
        clear hb rt
        go_wp2_with fail
        refine wp_region_grow (by kernel_rfl) [.string q, .int .i64 z, .string H, .pointer (some ⟨w.heap.size + 1, 0, none⟩), .int .u32 t.src, .pointer (some ⟨w.heap.size + 1, 1, none⟩), .int .u32 t.dst, .string HA, .string HA] (by kernel_rfl) ?op ?fin
        case op =>
          intro i o bx u ho hbel hS
          match i, ho with
          | 0, ho =>
            obtain rfl := Option.some.inj ho
            have d0 : bx.tmps.getD 0 undef = .string q := hS.base 0 (by kernel_rfl)
            refine .inl ⟨rfl, ends_value' (c := .string q) ?_⟩
            simp [execOp, Act.eval, d0]
          | 1, ho =>
            obtain rfl := Option.some.inj ho
            have d1 : bx.tmps.getD 1 undef = .int .i64 z := hS.base 1 (by kernel_rfl)
            refine .inl ⟨rfl, ends_value' (c := .int .i64 z) ?_⟩
            simp [execOp, Act.eval, d1]
          | 2, ho =>
            obtain rfl := Option.some.inj ho
            have d51 : bx.tmps.getD 51 undef = .string q := hS.dep 0 51 (by kernel_rfl) (by kernel_rfl)
            have d52 : bx.tmps.getD 52 undef = .int .i64 z := hS.dep 1 52 (by kernel_rfl) (by kernel_rfl)
            refine .inl ⟨rfl, ends_value' (c := .string H) ?_⟩
            simp [Act.eval, d51, d52, go_sem, hH, hz0, hz1]
          | 3, ho =>
            obtain rfl := Option.some.inj ho
            have d7 : bx.tmps.getD 7 undef = .pointer (some ⟨w.heap.size + 1, 0, none⟩) := hS.base 7 (by kernel_rfl)
            refine .inl ⟨rfl, ends_value' (c := .pointer (some ⟨w.heap.size + 1, 0, none⟩)) ?_⟩
            simp [Act.eval, d7, go_sem]
          | 4, ho =>
            obtain rfl := Option.some.inj ho
            have d54 : bx.tmps.getD 54 undef = .pointer (some ⟨w.heap.size + 1, 0, none⟩) := hS.dep 3 54 (by kernel_rfl) (by kernel_rfl)
            have hl := ((re.on' (pdrew hbel)).cell 0 _ rfl)
            refine .inl ⟨rfl, ends_value' (c := .int .u32 t.src) ?_⟩
            simp [Act.eval, d54, go_sem, hl]
          | 5, ho =>
            obtain rfl := Option.some.inj ho
            have d7 : bx.tmps.getD 7 undef = .pointer (some ⟨w.heap.size + 1, 0, none⟩) := hS.base 7 (by kernel_rfl)
            refine .inl ⟨rfl, ends_value' (c := .pointer (some ⟨w.heap.size + 1, 1, none⟩)) ?_⟩
            simp [Act.eval, d7, go_sem]
          | 6, ho =>
            obtain rfl := Option.some.inj ho
            have d56 : bx.tmps.getD 56 undef = .pointer (some ⟨w.heap.size + 1, 1, none⟩) := hS.dep 5 56 (by kernel_rfl) (by kernel_rfl)
            have hl := ((re.on' (pdrew hbel)).cell 1 _ rfl)
            refine .inl ⟨rfl, ends_value' (c := .int .u32 t.dst) ?_⟩
            simp [Act.eval, d56, go_sem, hl]
          | 7, ho =>
            obtain rfl := Option.some.inj ho
            have d53 : bx.tmps.getD 53 undef = .string H := hS.dep 2 53 (by kernel_rfl) (by kernel_rfl)
            have d55 : bx.tmps.getD 55 undef = .int .u32 t.src := hS.dep 4 55 (by kernel_rfl) (by kernel_rfl)
            have d57 : bx.tmps.getD 57 undef = .int .u32 t.dst := hS.dep 6 57 (by kernel_rfl) (by kernel_rfl)
            refine .inl ⟨rfl, ends_call' (c := .string HA) (f := 49) (args := #[.string H, .int .u32 t.src, .int .u32 t.dst]) ?_ (unhide HWA u)⟩
            simp [Act.eval, d53, d55, d57, go_sem]
          | 8, ho =>
            obtain rfl := Option.some.inj ho
            have d58 : bx.tmps.getD 58 undef = .string HA := hS.dep 7 58 (by kernel_rfl) (by kernel_rfl)
            refine .inl ⟨rfl, ends_value' (c := .string HA) ?_⟩
            simp [execOp, Act.eval, d58]
          | n + 9, ho => exact absurd ho (by simp)
        case fin =>
          intro u hbel
          simp [putAll, dstAt, Act.put]
          replace re := re.on' (pdrew hbel)
          replace sa := sa.on (pdrew hbel)
          replace sp := sp.on (pdrew hbel)
          replace bel := Below.then bel (pdrew hbel)
          clear hbel
          go_wp2_with fail
          refine wp_region_grow (by kernel_rfl) [.string q, .int .i64 z, .string R, t.val, .string RA, .string RA] (by kernel_rfl) ?op ?fin
          case op =>
            intro i o bx u ho hbel hS
            match i, ho with
            | 0, ho =>
              obtain rfl := Option.some.inj ho
              have d0 : bx.tmps.getD 0 undef = .string q := hS.base 0 (by kernel_rfl)
              refine .inl ⟨rfl, ends_value' (c := .string q) ?_⟩
              simp [execOp, Act.eval, d0]
            | 1, ho =>
              obtain rfl := Option.some.inj ho
              have d1 : bx.tmps.getD 1 undef = .int .i64 z := hS.base 1 (by kernel_rfl)
              refine .inl ⟨rfl, ends_value' (c := .int .i64 z) ?_⟩
              simp [execOp, Act.eval, d1]
            | 2, ho =>
              obtain rfl := Option.some.inj ho
              have d59 : bx.tmps.getD 59 undef = .string q := hS.dep 0 59 (by kernel_rfl) (by kernel_rfl)
              have d60 : bx.tmps.getD 60 undef = .int .i64 z := hS.dep 1 60 (by kernel_rfl) (by kernel_rfl)
              refine .inl ⟨rfl, ends_value' (c := .string R) ?_⟩
              simp [Act.eval, d59, d60, go_sem, hR, hz0, hz1]
            | 3, ho =>
              obtain rfl := Option.some.inj ho
              have d7 : bx.tmps.getD 7 undef = .pointer (some ⟨w.heap.size + 1, 0, none⟩) := hS.base 7 (by kernel_rfl)
              refine .inl ⟨rfl, ends_value' (c := t.val) ?_⟩
              simp [Act.eval, d7, go_sem, ((re.on' (pdrew hbel)).cell 0 _ rfl), ((re.on' (pdrew hbel)).cell 1 _ rfl), ((re.on' (pdrew hbel)).cell 2 _ rfl), ((re.on' (pdrew hbel)).cell 3 _ rfl)]
            | 4, ho =>
              obtain rfl := Option.some.inj ho
              have d61 : bx.tmps.getD 61 undef = .string R := hS.dep 2 61 (by kernel_rfl) (by kernel_rfl)
              have d62 : bx.tmps.getD 62 undef = t.val := hS.dep 3 62 (by kernel_rfl) (by kernel_rfl)
              refine .inl ⟨rfl, ends_call' (c := .string RA) (f := 52) (args := #[.string R, t.val]) ?_ (unhide HWP u)⟩
              simp [Act.eval, d61, d62, go_sem]
            | 5, ho =>
              obtain rfl := Option.some.inj ho
              have d63 : bx.tmps.getD 63 undef = .string RA := hS.dep 4 63 (by kernel_rfl) (by kernel_rfl)
              refine .inl ⟨rfl, ends_value' (c := .string RA) ?_⟩
              simp [execOp, Act.eval, d63]
            | n + 6, ho => exact absurd ho (by simp)
          case fin =>
            intro u hbel
            simp [putAll, dstAt, Act.put]
            replace sa := sa.on (pdrew hbel)
            replace sp := sp.on (pdrew hbel)
            replace bel := Below.then bel (pdrew hbel)
            clear hbel re
            go_wp2_with fail
            refine (unhide HGA _ _ sa).mono ?_
            rintro e u8 ⟨rfl, hb⟩
            replace sp := sp.on hb
            replace bel := Below.then bel hb
            clear hb sa
            go_wp2_with fail
            refine (unhide HGB _ _ sp).mono ?_
            rintro e u9 ⟨rfl, hb⟩
            replace bel := Below.then bel hb
            clear hb sp
            go_wp2_with fail
            go_ret
            exact ⟨ret_str' (unhide HS).symm, bel⟩
end Go.Proofs.YtpjaajeojiaeiaaGreatDoor
