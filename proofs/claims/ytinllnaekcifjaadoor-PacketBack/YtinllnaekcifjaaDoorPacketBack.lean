/- PacketBack: a tuple that is turned twice is as it was; two unlike tuples have unlike keys, each of 13 bytes; under the given ties of the package's listed variables. -/
import Derived.Test.YtinllnaekcifjaaDoorPkLaidD
import Derived.Test.YtinllnaekcifjaaDoorPkOpT
import Derived.Test.YtinllnaekcifjaaDoorPkKey
import Derived.Test.YtinllnaekcifjaaDoorPkEx
namespace Go.Proofs.YtinllnaekcifjaaDoor.packetBack
open Go.ChangeShapes Go.WideShapes Go.ChangeAt Go.RowKit
open Go.ChangeMaps (open_string shut_string)
open TO
set_option linter.unusedVariables false
theorem wanted_undef {o : Oper} {ops : Array Oper} {b : Act} {j : Nat} {t : Tmp} {c : Bool} (hg : o.guard = some (j, c)) (hd : dstAt ops j = some t) (h : b.tmps.getD t undef = undef) : Region.wanted o (yielded ops b.tmps) = false := by
  have hy : yielded ops b.tmps j = none := by
    unfold dstAt at hd
    unfold yielded
    rw [hd]
    rw [Array.getD_eq_getD_getElem?] at h
    simp only [Option.bind_some]
    cases hx : b.tmps[t]? with
    | none => rfl
    | some x => rw [hx] at h; simp at h; rw [h]; rfl
  unfold Region.wanted
  rw [hg]
  simp only
  rw [hy]; rfl
theorem key_size {t : Tp} (ht : t.Wf) (h : keyB t = true) : (keyS t).size = 13 := by
  have hh : laidB 1 t.proto = true ∧ laidB 2 t.sport = true ∧ laidB 2 t.dport = true := by
    unfold keyB at h
    revert h
    cases laidB 1 t.proto <;> cases laidB 2 t.sport <;> cases laidB 2 t.dport <;> simp
  rw [keyS_yes h]
  simp only [ByteArray.size_append]
  have sz : ∀ (s n : Int), laidB s n = true → (laid s n).size = s.toNat := fun s n hb => by
    unfold laid
    rw [if_pos hb]
    show (Oct.be s.toNat n.toNat).toArray.size = _
    simp [Oct.be_length]
  rw [sz 1 _ hh.1, sz 4 _ (laidB4 ht.src), sz 4 _ (laidB4 ht.dst), sz 2 _ hh.2.1, sz 2 _ hh.2.2]
  rfl
theorem laid_inj {s a b : Int} (ha : laidB s a = true) (hb : laidB s b = true) (h : (laid s a).data.toList = (laid s b).data.toList) : a = b := by
  have ra := (laidB_iff s a).1 ha
  have rb := (laidB_iff s b).1 hb
  unfold laid at h
  rw [if_pos ha, if_pos hb] at h
  have h' : Oct.be s.toNat a.toNat = Oct.be s.toNat b.toNat := h
  have e := congrArg Oct.num h'
  rw [Oct.num_be _ _ ra.2.2, Oct.num_be _ _ rb.2.2] at e
  have := ra.2.1
  have := rb.2.1
  omega
theorem app_split {a b c d : List UInt8} (hl : a.length = c.length) (h : a ++ b = c ++ d) : a = c ∧ b = d := List.append_inj h hl
theorem key_inj {x y : Tp} (hx : x.Wf) (hy : y.Wf) (bx : keyB x = true) (b_y : keyB y = true) (h : keyS x = keyS y) : x = y := by
  have hh : ∀ {t : Tp}, keyB t = true → laidB 1 t.proto = true ∧ laidB 2 t.sport = true ∧ laidB 2 t.dport = true := fun {t} h => by
    unfold keyB at h
    revert h
    cases laidB 1 t.proto <;> cases laidB 2 t.sport <;> cases laidB 2 t.dport <;> simp
  obtain ⟨x1, x2, x3⟩ := hh bx
  obtain ⟨y1, y2, y3⟩ := hh b_y
  have len : ∀ (s a b : Int), laidB s a = true → laidB s b = true → (laid s a).data.toList.length = (laid s b).data.toList.length := fun s a b ha hb => by
    unfold laid
    rw [if_pos ha, if_pos hb]
    show (Oct.be s.toNat a.toNat).length = (Oct.be s.toNat b.toNat).length
    rw [Oct.be_length, Oct.be_length]
  have hl := congrArg (fun z : ByteArray => z.data.toList) h
  simp only [keyS_yes bx, keyS_yes b_y, ByteArray.data_append, Array.toList_append, List.append_assoc] at hl
  obtain ⟨e1, hl⟩ := app_split (len _ _ _ x1 y1) hl
  obtain ⟨e2, hl⟩ := app_split (len _ _ _ (laidB4 hx.src) (laidB4 hy.src)) hl
  obtain ⟨e3, hl⟩ := app_split (len _ _ _ (laidB4 hx.dst) (laidB4 hy.dst)) hl
  obtain ⟨e4, e5⟩ := app_split (len _ _ _ x2 y2) hl
  obtain ⟨p, s, d, sp, dp⟩ := x
  obtain ⟨p', s', d', sp', dp'⟩ := y
  have q1 : p = p' := laid_inj x1 y1 e1
  have q2 : s = s' := laid_inj (laidB4 hx.src) (laidB4 hy.src) e2
  have q3 : d = d' := laid_inj (laidB4 hx.dst) (laidB4 hy.dst) e3
  have q4 : sp = sp' := laid_inj x2 y2 e4
  have q5 : dp = dp' := laid_inj x3 y3 e5
  subst q1 q2 q3 q4 q5
  rfl
theorem rev_wf {t : Tp} (h : t.Wf) : (revT t).Wf := ⟨h.dst, h.src⟩
theorem rev_keyB (t : Tp) : keyB (revT t) = keyB t := by
  show (laidB 1 t.proto && laidB 2 t.dport && laidB 2 t.sport) = (laidB 1 t.proto && laidB 2 t.sport && laidB 2 t.dport)
  cases laidB 1 t.proto <;> cases laidB 2 t.sport <;> cases laidB 2 t.dport <;> rfl
theorem rev_rev (t : Tp) : revT (revT t) = t := rfl
theorem ne_fields {x y : Tp} (h : ¬ x = y) : x.proto = y.proto → x.src = y.src → x.dst = y.dst → x.sport = y.sport → ¬ x.dport = y.dport := by
  obtain ⟨p, s, d, sp, dp⟩ := x
  obtain ⟨p', s', d', sp', dp'⟩ := y
  intro h1 h2 h3 h4 h5
  simp only at h1 h2 h3 h4 h5
  subst h1 h2 h3 h4 h5
  exact h rfl
set_option maxHeartbeats 4000000 in
set_option maxRecDepth 100000 in
theorem walk (w : World) (hE : Ic.Env w) (a0 : Tp) (w0 : a0.Wf) (a1 : Tp) (w1 : a1.Wf) :
    Calls Tryd.prog 4 #[a0.val, a1.val] w fun e w' => e = .returned (.bool true) ∧ Below w.heap.size w w' := by
  have KE := hide (fun u h => examples_any u h)
  have K0 := hide (fun u => key_any a0 w0 u)
  have K1 := hide (fun u => key_any a1 w1 u)
  have KU := hide (fun u => key_any (revT a0) (rev_wf w0) u)
  have V1 := hide (fun u => rev_any a0 u)
  have V2 := hide (fun u => rev_any (revT a0) u)
  rw [rev_rev] at V2
  rw [rev_keyB] at KU
  have Z0 := hide (key_size w0)
  have ZU := hide (key_size (rev_wf w0))
  rw [rev_keyB] at ZU
  have HI := hide (key_inj w0 w1)
  have HS : Hid (a0 = a1 → keyS a0 = keyS a1 ∧ keyB a0 = keyB a1) := fun h => by rw [h]; exact ⟨rfl, rfl⟩
  generalize keyS a0 = S0 at *
  generalize keyS a1 = S1 at *
  generalize keyS (revT a0) = SU at *
  generalize keyB a0 = KA at *
  generalize keyB a1 = KB at *
  have HE := hide hE
  clear hE w0 w1
  have r0 := allocs_row [(a0.cells, 24), (a1.cells, 24)] w 0 _ _ rfl
  have s0 := allocs_row [(a0.cells, 24), (a1.cells, 24)] w 1 _ _ rfl
  have b0 := allocs_below [(a0.cells, 24), (a1.cells, 24)] w
  have HR := hide (And.intro r0 (And.intro s0 b0))
  clear r0 s0 b0
  go_enter Tryd.func4, Tryd.ntmps4
  go_wp2_with fail
  refine (unhide KE _ ((unhide HE).on (unhide HR).2.2)).mono ?_
  rintro e w1 ⟨rfl, hb⟩
  obtain ⟨r0, s0, b0⟩ := unhide HR
  have r1 : Row w1 w.heap.size a0.cells := r0.on' hb
  have s1 : Row w1 (w.heap.size + 1) a1.cells := s0.on' hb
  have b1 := Below.then b0 hb
  have c0 := r1.cell 0 _ rfl
  have c1 := r1.cell 1 _ rfl
  have c2 := r1.cell 2 _ rfl
  have c3 := r1.cell 3 _ rfl
  have c4 := r1.cell 4 _ rfl
  have HR := hide (And.intro r1 (And.intro s1 b1))
  clear r0 s0 b0 r1 s1 b1 hb
  go_wp2_with fail
  refine (unhide K0 _).mono ?_
  rintro e w2 ⟨rfl, hb⟩
  clear c0 c1 c2 c3 c4
  obtain ⟨r1, s1, b1⟩ := unhide HR
  have r2 := r1.on' hb
  have s2 := s1.on' hb
  have b2 := Below.then b1 hb
  have c0 := s2.cell 0 _ rfl
  have c1 := s2.cell 1 _ rfl
  have c2 := s2.cell 2 _ rfl
  have c3 := s2.cell 3 _ rfl
  have c4 := s2.cell 4 _ rfl
  have HR := hide (And.intro r2 (And.intro s2 b2))
  clear r1 s1 b1 r2 s2 b2 hb
  go_wp2_with fail
  refine (unhide K1 _).mono ?_
  rintro e w3 ⟨rfl, hb⟩
  clear c0 c1 c2 c3 c4
  obtain ⟨r2, s2, b2⟩ := unhide HR
  have r3 := r2.on' hb
  have s3 := s2.on' hb
  have b3 := Below.then b2 hb
  have c0 := r3.cell 0 _ rfl
  have c1 := r3.cell 1 _ rfl
  have c2 := r3.cell 2 _ rfl
  have c3 := r3.cell 3 _ rfl
  have c4 := r3.cell 4 _ rfl
  have HR := hide (And.intro r3 (And.intro s3 b3))
  clear r2 s2 b2 r3 s3 b3 hb
  go_wp2_with fail
  refine (unhide V1 _).mono ?_
  rintro e w4 ⟨rfl, hb⟩
  clear c0 c1 c2 c3 c4
  obtain ⟨r3, s3, b3⟩ := unhide HR
  have r4 := r3.on' hb
  have s4 := s3.on' hb
  have b4 := Below.then b3 hb
  have HR := hide (And.intro r4 (And.intro s4 b4))
  clear r3 s3 b3 r4 s4 b4 hb
  go_wp2_with fail
  refine (unhide KU _).mono ?_
  rintro e w5 ⟨rfl, hb⟩
  obtain ⟨r4, s4, b4⟩ := unhide HR
  have r5 := r4.on' hb
  have s5 := s4.on' hb
  have HB := hide (Below.then b4 hb)
  have HR5 := hide (And.intro r5 s5)
  clear r4 s4 b4 hb HR r5 s5
  go_wp2_with fail
  obtain ⟨r5, s5⟩ := unhide HR5
  have up : ∀ x, Below w5.heap.size w5.drew x → Row x w.heap.size a0.cells := fun x hb => (r5.of_block (W' := w5.drew) rfl).on hb r5.lt
  have up1 : ∀ x, Below w5.heap.size w5.drew x → Row x (w.heap.size + 1) a1.cells := fun x hb => (s5.of_block (W' := w5.drew) rfl).on hb s5.lt
  cases KA with
  | false =>
    refine wp_region_grow (by kernel_rfl) [.bool true, .bool true, a0.val, (revT a0).val, a0.val, a0.val, .bool true, .bool true, .bool true, .bool false, .bool false, .bool true, .bool true, .bool true, .bool false, .bool true, .bool true, undef, undef, undef, undef, undef, undef, undef, undef, .bool true, .bool true, .bool true, .bool false, .bool true, .bool true, undef, undef, .bool true, .bool true, undef, undef, undef, undef, undef, undef, undef, .bool true, .bool true, .bool true] (by kernel_rfl) ?op ?fin
    case op =>
      intro i o bx u ho hbel hS
      match i, ho with
      | 0, ho =>
        obtain rfl := Option.some.inj ho
        have d5 : bx.tmps.getD 5 undef = .bool true := hS.base 5 (by kernel_rfl)
        refine .inl ⟨rfl, ends_value' (c := .bool true) ?_⟩
        simp [execOp, Act.eval, d5]
      | 1, ho =>
        obtain rfl := Option.some.inj ho
        have d31 : bx.tmps.getD 31 undef = .bool true := hS.dep 0 31 (by kernel_rfl) (by kernel_rfl)
        refine .inl ⟨rfl, ends_value' (c := .bool true) ?_⟩
        simp [execOp, Act.eval, d31]
      | 2, ho =>
        obtain rfl := Option.some.inj ho
        have d2 : bx.tmps.getD 2 undef = .pointer (some ⟨w.heap.size, 0, none⟩) := hS.base 2 (by kernel_rfl)
        have gd : bx.tmps.getD 32 undef = .bool true := hS.dep 1 32 (by kernel_rfl) (by kernel_rfl)
        have v0 := (up u hbel).cell 0 _ rfl
        have v1 := (up u hbel).cell 1 _ rfl
        have v2 := (up u hbel).cell 2 _ rfl
        have v3 := (up u hbel).cell 3 _ rfl
        have v4 := (up u hbel).cell 4 _ rfl
        refine .inl ⟨wanted_yes (j := 1) (t := 32) (c := true) (by kernel_rfl) (by kernel_rfl) gd, ends_value' (c := a0.val) ?_⟩
        simp [Act.eval, d2, go_sem, v0, v1, v2, v3, v4]
      | 3, ho =>
        obtain rfl := Option.some.inj ho
        have d33 : bx.tmps.getD 33 undef = a0.val := hS.dep 2 33 (by kernel_rfl) (by kernel_rfl)
        have gd : bx.tmps.getD 32 undef = .bool true := hS.dep 1 32 (by kernel_rfl) (by kernel_rfl)
        refine .inl ⟨wanted_yes (j := 1) (t := 32) (c := true) (by kernel_rfl) (by kernel_rfl) gd, ends_call' (c := (revT a0).val) (f := 11) (args := #[a0.val]) ?_ (unhide V1 u)⟩
        simp [Act.eval, d33, go_sem]
      | 4, ho =>
        obtain rfl := Option.some.inj ho
        have d34 : bx.tmps.getD 34 undef = (revT a0).val := hS.dep 3 34 (by kernel_rfl) (by kernel_rfl)
        have gd : bx.tmps.getD 32 undef = .bool true := hS.dep 1 32 (by kernel_rfl) (by kernel_rfl)
        refine .inl ⟨wanted_yes (j := 1) (t := 32) (c := true) (by kernel_rfl) (by kernel_rfl) gd, ends_call' (c := a0.val) (f := 11) (args := #[(revT a0).val]) ?_ (unhide V2 u)⟩
        simp [Act.eval, d34, go_sem]
      | 5, ho =>
        obtain rfl := Option.some.inj ho
        have d2 : bx.tmps.getD 2 undef = .pointer (some ⟨w.heap.size, 0, none⟩) := hS.base 2 (by kernel_rfl)
        have gd : bx.tmps.getD 32 undef = .bool true := hS.dep 1 32 (by kernel_rfl) (by kernel_rfl)
        have v0 := (up u hbel).cell 0 _ rfl
        have v1 := (up u hbel).cell 1 _ rfl
        have v2 := (up u hbel).cell 2 _ rfl
        have v3 := (up u hbel).cell 3 _ rfl
        have v4 := (up u hbel).cell 4 _ rfl
        refine .inl ⟨wanted_yes (j := 1) (t := 32) (c := true) (by kernel_rfl) (by kernel_rfl) gd, ends_value' (c := a0.val) ?_⟩
        simp [Act.eval, d2, go_sem, v0, v1, v2, v3, v4]
      | 6, ho =>
        obtain rfl := Option.some.inj ho
        have d35 : bx.tmps.getD 35 undef = a0.val := hS.dep 4 35 (by kernel_rfl) (by kernel_rfl)
        have d36 : bx.tmps.getD 36 undef = a0.val := hS.dep 5 36 (by kernel_rfl) (by kernel_rfl)
        have gd : bx.tmps.getD 32 undef = .bool true := hS.dep 1 32 (by kernel_rfl) (by kernel_rfl)
        refine .inl ⟨wanted_yes (j := 1) (t := 32) (c := true) (by kernel_rfl) (by kernel_rfl) gd, ends_value' (c := .bool true) ?_⟩
        simp [Act.eval, d35, d36, go_sem]
      | 7, ho =>
        obtain rfl := Option.some.inj ho
        have d32 : bx.tmps.getD 32 undef = .bool true := hS.dep 1 32 (by kernel_rfl) (by kernel_rfl)
        have d37 : bx.tmps.getD 37 undef = .bool true := hS.dep 6 37 (by kernel_rfl) (by kernel_rfl)
        refine .inl ⟨rfl, ends_value' (c := .bool true) ?_⟩
        simp [Act.eval, d32, d37, go_sem]
      | 8, ho =>
        obtain rfl := Option.some.inj ho
        have d38 : bx.tmps.getD 38 undef = .bool true := hS.dep 7 38 (by kernel_rfl) (by kernel_rfl)
        refine .inl ⟨rfl, ends_value' (c := .bool true) ?_⟩
        simp [execOp, Act.eval, d38]
      | 9, ho =>
        obtain rfl := Option.some.inj ho
        have d7 : bx.tmps.getD 7 undef = .bool false := hS.base 7 (by kernel_rfl)
        have gd : bx.tmps.getD 39 undef = .bool true := hS.dep 8 39 (by kernel_rfl) (by kernel_rfl)
        refine .inl ⟨wanted_yes (j := 8) (t := 39) (c := true) (by kernel_rfl) (by kernel_rfl) gd, ends_value' (c := .bool false) ?_⟩
        simp [execOp, Act.eval, d7]
      | 10, ho =>
        obtain rfl := Option.some.inj ho
        have d11 : bx.tmps.getD 11 undef = .bool false := hS.base 11 (by kernel_rfl)
        have gd : bx.tmps.getD 39 undef = .bool true := hS.dep 8 39 (by kernel_rfl) (by kernel_rfl)
        refine .inl ⟨wanted_yes (j := 8) (t := 39) (c := true) (by kernel_rfl) (by kernel_rfl) gd, ends_value' (c := .bool false) ?_⟩
        simp [execOp, Act.eval, d11]
      | 11, ho =>
        obtain rfl := Option.some.inj ho
        have d40 : bx.tmps.getD 40 undef = .bool false := hS.dep 9 40 (by kernel_rfl) (by kernel_rfl)
        have d41 : bx.tmps.getD 41 undef = .bool false := hS.dep 10 41 (by kernel_rfl) (by kernel_rfl)
        have gd : bx.tmps.getD 39 undef = .bool true := hS.dep 8 39 (by kernel_rfl) (by kernel_rfl)
        refine .inl ⟨wanted_yes (j := 8) (t := 39) (c := true) (by kernel_rfl) (by kernel_rfl) gd, ends_value' (c := .bool true) ?_⟩
        simp [Act.eval, d40, d41, go_sem]
      | 12, ho =>
        obtain rfl := Option.some.inj ho
        have d39 : bx.tmps.getD 39 undef = .bool true := hS.dep 8 39 (by kernel_rfl) (by kernel_rfl)
        have d42 : bx.tmps.getD 42 undef = .bool true := hS.dep 11 42 (by kernel_rfl) (by kernel_rfl)
        refine .inl ⟨rfl, ends_value' (c := .bool true) ?_⟩
        simp [Act.eval, d39, d42, go_sem]
      | 13, ho =>
        obtain rfl := Option.some.inj ho
        have d43 : bx.tmps.getD 43 undef = .bool true := hS.dep 12 43 (by kernel_rfl) (by kernel_rfl)
        refine .inl ⟨rfl, ends_value' (c := .bool true) ?_⟩
        simp [execOp, Act.eval, d43]
      | 14, ho =>
        obtain rfl := Option.some.inj ho
        have d7 : bx.tmps.getD 7 undef = .bool false := hS.base 7 (by kernel_rfl)
        have gd : bx.tmps.getD 44 undef = .bool true := hS.dep 13 44 (by kernel_rfl) (by kernel_rfl)
        refine .inl ⟨wanted_yes (j := 13) (t := 44) (c := true) (by kernel_rfl) (by kernel_rfl) gd, ends_value' (c := .bool false) ?_⟩
        simp [execOp, Act.eval, d7]
      | 15, ho =>
        obtain rfl := Option.some.inj ho
        have d45 : bx.tmps.getD 45 undef = .bool false := hS.dep 14 45 (by kernel_rfl) (by kernel_rfl)
        have gd : bx.tmps.getD 44 undef = .bool true := hS.dep 13 44 (by kernel_rfl) (by kernel_rfl)
        refine .inl ⟨wanted_yes (j := 13) (t := 44) (c := true) (by kernel_rfl) (by kernel_rfl) gd, ends_value' (c := .bool true) ?_⟩
        simp [Act.eval, d45, go_sem]
      | 16, ho =>
        obtain rfl := Option.some.inj ho
        have d46 : bx.tmps.getD 46 undef = .bool true := hS.dep 15 46 (by kernel_rfl) (by kernel_rfl)
        have gd : bx.tmps.getD 44 undef = .bool true := hS.dep 13 44 (by kernel_rfl) (by kernel_rfl)
        refine .inl ⟨wanted_yes (j := 13) (t := 44) (c := true) (by kernel_rfl) (by kernel_rfl) gd, ends_value' (c := .bool true) ?_⟩
        simp [execOp, Act.eval, d46]
      | 17, ho =>
        obtain rfl := Option.some.inj ho
        have gd : bx.tmps.getD 47 undef = .bool true := hS.dep 16 47 (by kernel_rfl) (by kernel_rfl)
        exact .inr ⟨wanted_no (j := 16) (t := 47) (c := false) (by kernel_rfl) (by kernel_rfl) gd, rfl⟩
      | 18, ho =>
        obtain rfl := Option.some.inj ho
        have gd : bx.tmps.getD 47 undef = .bool true := hS.dep 16 47 (by kernel_rfl) (by kernel_rfl)
        exact .inr ⟨wanted_no (j := 16) (t := 47) (c := false) (by kernel_rfl) (by kernel_rfl) gd, rfl⟩
      | 19, ho =>
        obtain rfl := Option.some.inj ho
        have gd : bx.tmps.getD 47 undef = .bool true := hS.dep 16 47 (by kernel_rfl) (by kernel_rfl)
        exact .inr ⟨wanted_no (j := 16) (t := 47) (c := false) (by kernel_rfl) (by kernel_rfl) gd, rfl⟩
      | 20, ho =>
        obtain rfl := Option.some.inj ho
        have gd : bx.tmps.getD 47 undef = .bool true := hS.dep 16 47 (by kernel_rfl) (by kernel_rfl)
        exact .inr ⟨wanted_no (j := 16) (t := 47) (c := false) (by kernel_rfl) (by kernel_rfl) gd, rfl⟩
      | 21, ho =>
        obtain rfl := Option.some.inj ho
        have gd : bx.tmps.getD 51 undef = undef := hS.dep 20 51 (by kernel_rfl) (by kernel_rfl)
        exact .inr ⟨wanted_undef (j := 20) (t := 51) (c := true) (by kernel_rfl) (by kernel_rfl) gd, rfl⟩
      | 22, ho =>
        obtain rfl := Option.some.inj ho
        have gd : bx.tmps.getD 51 undef = undef := hS.dep 20 51 (by kernel_rfl) (by kernel_rfl)
        exact .inr ⟨wanted_undef (j := 20) (t := 51) (c := true) (by kernel_rfl) (by kernel_rfl) gd, rfl⟩
      | 23, ho =>
        obtain rfl := Option.some.inj ho
        have gd : bx.tmps.getD 51 undef = undef := hS.dep 20 51 (by kernel_rfl) (by kernel_rfl)
        exact .inr ⟨wanted_undef (j := 20) (t := 51) (c := true) (by kernel_rfl) (by kernel_rfl) gd, rfl⟩
      | 24, ho =>
        obtain rfl := Option.some.inj ho
        have gd : bx.tmps.getD 47 undef = .bool true := hS.dep 16 47 (by kernel_rfl) (by kernel_rfl)
        exact .inr ⟨wanted_no (j := 16) (t := 47) (c := false) (by kernel_rfl) (by kernel_rfl) gd, rfl⟩
      | 25, ho =>
        obtain rfl := Option.some.inj ho
        have d47 : bx.tmps.getD 47 undef = .bool true := hS.dep 16 47 (by kernel_rfl) (by kernel_rfl)
        have d55 : bx.tmps.getD 55 undef = undef := hS.dep 24 55 (by kernel_rfl) (by kernel_rfl)
        have gd : bx.tmps.getD 44 undef = .bool true := hS.dep 13 44 (by kernel_rfl) (by kernel_rfl)
        refine .inl ⟨wanted_yes (j := 13) (t := 44) (c := true) (by kernel_rfl) (by kernel_rfl) gd, ends_value' (c := .bool true) ?_⟩
        simp [Act.eval, d47, d55, go_sem]
      | 26, ho =>
        obtain rfl := Option.some.inj ho
        have d44 : bx.tmps.getD 44 undef = .bool true := hS.dep 13 44 (by kernel_rfl) (by kernel_rfl)
        have d56 : bx.tmps.getD 56 undef = .bool true := hS.dep 25 56 (by kernel_rfl) (by kernel_rfl)
        refine .inl ⟨rfl, ends_value' (c := .bool true) ?_⟩
        simp [Act.eval, d44, d56, go_sem]
      | 27, ho =>
        obtain rfl := Option.some.inj ho
        have d57 : bx.tmps.getD 57 undef = .bool true := hS.dep 26 57 (by kernel_rfl) (by kernel_rfl)
        refine .inl ⟨rfl, ends_value' (c := .bool true) ?_⟩
        simp [execOp, Act.eval, d57]
      | 28, ho =>
        obtain rfl := Option.some.inj ho
        have d7 : bx.tmps.getD 7 undef = .bool false := hS.base 7 (by kernel_rfl)
        have gd : bx.tmps.getD 58 undef = .bool true := hS.dep 27 58 (by kernel_rfl) (by kernel_rfl)
        refine .inl ⟨wanted_yes (j := 27) (t := 58) (c := true) (by kernel_rfl) (by kernel_rfl) gd, ends_value' (c := .bool false) ?_⟩
        simp [execOp, Act.eval, d7]
      | 29, ho =>
        obtain rfl := Option.some.inj ho
        have d59 : bx.tmps.getD 59 undef = .bool false := hS.dep 28 59 (by kernel_rfl) (by kernel_rfl)
        have gd : bx.tmps.getD 58 undef = .bool true := hS.dep 27 58 (by kernel_rfl) (by kernel_rfl)
        refine .inl ⟨wanted_yes (j := 27) (t := 58) (c := true) (by kernel_rfl) (by kernel_rfl) gd, ends_value' (c := .bool true) ?_⟩
        simp [Act.eval, d59, go_sem]
      | 30, ho =>
        obtain rfl := Option.some.inj ho
        have d60 : bx.tmps.getD 60 undef = .bool true := hS.dep 29 60 (by kernel_rfl) (by kernel_rfl)
        have gd : bx.tmps.getD 58 undef = .bool true := hS.dep 27 58 (by kernel_rfl) (by kernel_rfl)
        refine .inl ⟨wanted_yes (j := 27) (t := 58) (c := true) (by kernel_rfl) (by kernel_rfl) gd, ends_value' (c := .bool true) ?_⟩
        simp [execOp, Act.eval, d60]
      | 31, ho =>
        obtain rfl := Option.some.inj ho
        have gd : bx.tmps.getD 61 undef = .bool true := hS.dep 30 61 (by kernel_rfl) (by kernel_rfl)
        exact .inr ⟨wanted_no (j := 30) (t := 61) (c := false) (by kernel_rfl) (by kernel_rfl) gd, rfl⟩
      | 32, ho =>
        obtain rfl := Option.some.inj ho
        have gd : bx.tmps.getD 61 undef = .bool true := hS.dep 30 61 (by kernel_rfl) (by kernel_rfl)
        exact .inr ⟨wanted_no (j := 30) (t := 61) (c := false) (by kernel_rfl) (by kernel_rfl) gd, rfl⟩
      | 33, ho =>
        obtain rfl := Option.some.inj ho
        have d61 : bx.tmps.getD 61 undef = .bool true := hS.dep 30 61 (by kernel_rfl) (by kernel_rfl)
        have d63 : bx.tmps.getD 63 undef = undef := hS.dep 32 63 (by kernel_rfl) (by kernel_rfl)
        have gd : bx.tmps.getD 58 undef = .bool true := hS.dep 27 58 (by kernel_rfl) (by kernel_rfl)
        refine .inl ⟨wanted_yes (j := 27) (t := 58) (c := true) (by kernel_rfl) (by kernel_rfl) gd, ends_value' (c := .bool true) ?_⟩
        simp [Act.eval, d61, d63, go_sem]
      | 34, ho =>
        obtain rfl := Option.some.inj ho
        have d64 : bx.tmps.getD 64 undef = .bool true := hS.dep 33 64 (by kernel_rfl) (by kernel_rfl)
        have gd : bx.tmps.getD 58 undef = .bool true := hS.dep 27 58 (by kernel_rfl) (by kernel_rfl)
        refine .inl ⟨wanted_yes (j := 27) (t := 58) (c := true) (by kernel_rfl) (by kernel_rfl) gd, ends_value' (c := .bool true) ?_⟩
        simp [execOp, Act.eval, d64]
      | 35, ho =>
        obtain rfl := Option.some.inj ho
        have gd : bx.tmps.getD 65 undef = .bool true := hS.dep 34 65 (by kernel_rfl) (by kernel_rfl)
        exact .inr ⟨wanted_no (j := 34) (t := 65) (c := false) (by kernel_rfl) (by kernel_rfl) gd, rfl⟩
      | 36, ho =>
        obtain rfl := Option.some.inj ho
        have gd : bx.tmps.getD 65 undef = .bool true := hS.dep 34 65 (by kernel_rfl) (by kernel_rfl)
        exact .inr ⟨wanted_no (j := 34) (t := 65) (c := false) (by kernel_rfl) (by kernel_rfl) gd, rfl⟩
      | 37, ho =>
        obtain rfl := Option.some.inj ho
        have gd : bx.tmps.getD 65 undef = .bool true := hS.dep 34 65 (by kernel_rfl) (by kernel_rfl)
        exact .inr ⟨wanted_no (j := 34) (t := 65) (c := false) (by kernel_rfl) (by kernel_rfl) gd, rfl⟩
      | 38, ho =>
        obtain rfl := Option.some.inj ho
        have gd : bx.tmps.getD 65 undef = .bool true := hS.dep 34 65 (by kernel_rfl) (by kernel_rfl)
        exact .inr ⟨wanted_no (j := 34) (t := 65) (c := false) (by kernel_rfl) (by kernel_rfl) gd, rfl⟩
      | 39, ho =>
        obtain rfl := Option.some.inj ho
        have gd : bx.tmps.getD 65 undef = .bool true := hS.dep 34 65 (by kernel_rfl) (by kernel_rfl)
        exact .inr ⟨wanted_no (j := 34) (t := 65) (c := false) (by kernel_rfl) (by kernel_rfl) gd, rfl⟩
      | 40, ho =>
        obtain rfl := Option.some.inj ho
        have gd : bx.tmps.getD 65 undef = .bool true := hS.dep 34 65 (by kernel_rfl) (by kernel_rfl)
        exact .inr ⟨wanted_no (j := 34) (t := 65) (c := false) (by kernel_rfl) (by kernel_rfl) gd, rfl⟩
      | 41, ho =>
        obtain rfl := Option.some.inj ho
        have gd : bx.tmps.getD 65 undef = .bool true := hS.dep 34 65 (by kernel_rfl) (by kernel_rfl)
        exact .inr ⟨wanted_no (j := 34) (t := 65) (c := false) (by kernel_rfl) (by kernel_rfl) gd, rfl⟩
      | 42, ho =>
        obtain rfl := Option.some.inj ho
        have d65 : bx.tmps.getD 65 undef = .bool true := hS.dep 34 65 (by kernel_rfl) (by kernel_rfl)
        have d72 : bx.tmps.getD 72 undef = undef := hS.dep 41 72 (by kernel_rfl) (by kernel_rfl)
        have gd : bx.tmps.getD 58 undef = .bool true := hS.dep 27 58 (by kernel_rfl) (by kernel_rfl)
        refine .inl ⟨wanted_yes (j := 27) (t := 58) (c := true) (by kernel_rfl) (by kernel_rfl) gd, ends_value' (c := .bool true) ?_⟩
        simp [Act.eval, d65, d72, go_sem]
      | 43, ho =>
        obtain rfl := Option.some.inj ho
        have d58 : bx.tmps.getD 58 undef = .bool true := hS.dep 27 58 (by kernel_rfl) (by kernel_rfl)
        have d73 : bx.tmps.getD 73 undef = .bool true := hS.dep 42 73 (by kernel_rfl) (by kernel_rfl)
        refine .inl ⟨rfl, ends_value' (c := .bool true) ?_⟩
        simp [Act.eval, d58, d73, go_sem]
      | 44, ho =>
        obtain rfl := Option.some.inj ho
        have d74 : bx.tmps.getD 74 undef = .bool true := hS.dep 43 74 (by kernel_rfl) (by kernel_rfl)
        refine .inl ⟨rfl, ends_value' (c := .bool true) ?_⟩
        simp [execOp, Act.eval, d74]
      | n + 45, ho => exact absurd ho (by simp)
    case fin =>
      intro u hbel
      simp [putAll, dstAt, Act.put]
      have HB2 := hide (Below.then (unhide HB) (show Below w5.heap.size w5 u from ⟨hbel.os, hbel.tape, hbel.output, hbel.size, hbel.block⟩))
      clear up up1 r5 s5 hbel HR5
      go_wp2_with fail
      go_ret
      exact ⟨rfl, unhide HB2⟩
  | true =>
    have z0 := (unhide Z0) rfl
    have zu := (unhide ZU) rfl
    cases KB with
    | false =>
      refine wp_region_grow (by kernel_rfl) [.bool true, .bool true, a0.val, (revT a0).val, a0.val, a0.val, .bool true, .bool true, .bool true, .bool true, .bool true, .bool true, .bool true, .bool true, .bool true, .bool false, .bool false, .string S0, .int .i64 13, .bool true, .bool true, .string SU, .int .i64 13, .bool true, .bool true, .bool true, .bool true, .bool true, .bool true, .bool false, .bool false, .bool false, .bool true, .bool true, .bool true, undef, undef, undef, undef, undef, undef, undef, .bool true, .bool true, .bool true] (by kernel_rfl) ?op ?fin
      case op =>
        intro i o bx u ho hbel hS
        match i, ho with
        | 0, ho =>
          obtain rfl := Option.some.inj ho
          have d5 : bx.tmps.getD 5 undef = .bool true := hS.base 5 (by kernel_rfl)
          refine .inl ⟨rfl, ends_value' (c := .bool true) ?_⟩
          simp [execOp, Act.eval, d5]
        | 1, ho =>
          obtain rfl := Option.some.inj ho
          have d31 : bx.tmps.getD 31 undef = .bool true := hS.dep 0 31 (by kernel_rfl) (by kernel_rfl)
          refine .inl ⟨rfl, ends_value' (c := .bool true) ?_⟩
          simp [execOp, Act.eval, d31]
        | 2, ho =>
          obtain rfl := Option.some.inj ho
          have d2 : bx.tmps.getD 2 undef = .pointer (some ⟨w.heap.size, 0, none⟩) := hS.base 2 (by kernel_rfl)
          have gd : bx.tmps.getD 32 undef = .bool true := hS.dep 1 32 (by kernel_rfl) (by kernel_rfl)
          have v0 := (up u hbel).cell 0 _ rfl
          have v1 := (up u hbel).cell 1 _ rfl
          have v2 := (up u hbel).cell 2 _ rfl
          have v3 := (up u hbel).cell 3 _ rfl
          have v4 := (up u hbel).cell 4 _ rfl
          refine .inl ⟨wanted_yes (j := 1) (t := 32) (c := true) (by kernel_rfl) (by kernel_rfl) gd, ends_value' (c := a0.val) ?_⟩
          simp [Act.eval, d2, go_sem, v0, v1, v2, v3, v4]
        | 3, ho =>
          obtain rfl := Option.some.inj ho
          have d33 : bx.tmps.getD 33 undef = a0.val := hS.dep 2 33 (by kernel_rfl) (by kernel_rfl)
          have gd : bx.tmps.getD 32 undef = .bool true := hS.dep 1 32 (by kernel_rfl) (by kernel_rfl)
          refine .inl ⟨wanted_yes (j := 1) (t := 32) (c := true) (by kernel_rfl) (by kernel_rfl) gd, ends_call' (c := (revT a0).val) (f := 11) (args := #[a0.val]) ?_ (unhide V1 u)⟩
          simp [Act.eval, d33, go_sem]
        | 4, ho =>
          obtain rfl := Option.some.inj ho
          have d34 : bx.tmps.getD 34 undef = (revT a0).val := hS.dep 3 34 (by kernel_rfl) (by kernel_rfl)
          have gd : bx.tmps.getD 32 undef = .bool true := hS.dep 1 32 (by kernel_rfl) (by kernel_rfl)
          refine .inl ⟨wanted_yes (j := 1) (t := 32) (c := true) (by kernel_rfl) (by kernel_rfl) gd, ends_call' (c := a0.val) (f := 11) (args := #[(revT a0).val]) ?_ (unhide V2 u)⟩
          simp [Act.eval, d34, go_sem]
        | 5, ho =>
          obtain rfl := Option.some.inj ho
          have d2 : bx.tmps.getD 2 undef = .pointer (some ⟨w.heap.size, 0, none⟩) := hS.base 2 (by kernel_rfl)
          have gd : bx.tmps.getD 32 undef = .bool true := hS.dep 1 32 (by kernel_rfl) (by kernel_rfl)
          have v0 := (up u hbel).cell 0 _ rfl
          have v1 := (up u hbel).cell 1 _ rfl
          have v2 := (up u hbel).cell 2 _ rfl
          have v3 := (up u hbel).cell 3 _ rfl
          have v4 := (up u hbel).cell 4 _ rfl
          refine .inl ⟨wanted_yes (j := 1) (t := 32) (c := true) (by kernel_rfl) (by kernel_rfl) gd, ends_value' (c := a0.val) ?_⟩
          simp [Act.eval, d2, go_sem, v0, v1, v2, v3, v4]
        | 6, ho =>
          obtain rfl := Option.some.inj ho
          have d35 : bx.tmps.getD 35 undef = a0.val := hS.dep 4 35 (by kernel_rfl) (by kernel_rfl)
          have d36 : bx.tmps.getD 36 undef = a0.val := hS.dep 5 36 (by kernel_rfl) (by kernel_rfl)
          have gd : bx.tmps.getD 32 undef = .bool true := hS.dep 1 32 (by kernel_rfl) (by kernel_rfl)
          refine .inl ⟨wanted_yes (j := 1) (t := 32) (c := true) (by kernel_rfl) (by kernel_rfl) gd, ends_value' (c := .bool true) ?_⟩
          simp [Act.eval, d35, d36, go_sem]
        | 7, ho =>
          obtain rfl := Option.some.inj ho
          have d32 : bx.tmps.getD 32 undef = .bool true := hS.dep 1 32 (by kernel_rfl) (by kernel_rfl)
          have d37 : bx.tmps.getD 37 undef = .bool true := hS.dep 6 37 (by kernel_rfl) (by kernel_rfl)
          refine .inl ⟨rfl, ends_value' (c := .bool true) ?_⟩
          simp [Act.eval, d32, d37, go_sem]
        | 8, ho =>
          obtain rfl := Option.some.inj ho
          have d38 : bx.tmps.getD 38 undef = .bool true := hS.dep 7 38 (by kernel_rfl) (by kernel_rfl)
          refine .inl ⟨rfl, ends_value' (c := .bool true) ?_⟩
          simp [execOp, Act.eval, d38]
        | 9, ho =>
          obtain rfl := Option.some.inj ho
          have d7 : bx.tmps.getD 7 undef = .bool true := hS.base 7 (by kernel_rfl)
          have gd : bx.tmps.getD 39 undef = .bool true := hS.dep 8 39 (by kernel_rfl) (by kernel_rfl)
          refine .inl ⟨wanted_yes (j := 8) (t := 39) (c := true) (by kernel_rfl) (by kernel_rfl) gd, ends_value' (c := .bool true) ?_⟩
          simp [execOp, Act.eval, d7]
        | 10, ho =>
          obtain rfl := Option.some.inj ho
          have d11 : bx.tmps.getD 11 undef = .bool true := hS.base 11 (by kernel_rfl)
          have gd : bx.tmps.getD 39 undef = .bool true := hS.dep 8 39 (by kernel_rfl) (by kernel_rfl)
          refine .inl ⟨wanted_yes (j := 8) (t := 39) (c := true) (by kernel_rfl) (by kernel_rfl) gd, ends_value' (c := .bool true) ?_⟩
          simp [execOp, Act.eval, d11]
        | 11, ho =>
          obtain rfl := Option.some.inj ho
          have d40 : bx.tmps.getD 40 undef = .bool true := hS.dep 9 40 (by kernel_rfl) (by kernel_rfl)
          have d41 : bx.tmps.getD 41 undef = .bool true := hS.dep 10 41 (by kernel_rfl) (by kernel_rfl)
          have gd : bx.tmps.getD 39 undef = .bool true := hS.dep 8 39 (by kernel_rfl) (by kernel_rfl)
          refine .inl ⟨wanted_yes (j := 8) (t := 39) (c := true) (by kernel_rfl) (by kernel_rfl) gd, ends_value' (c := .bool true) ?_⟩
          simp [Act.eval, d40, d41, go_sem]
        | 12, ho =>
          obtain rfl := Option.some.inj ho
          have d39 : bx.tmps.getD 39 undef = .bool true := hS.dep 8 39 (by kernel_rfl) (by kernel_rfl)
          have d42 : bx.tmps.getD 42 undef = .bool true := hS.dep 11 42 (by kernel_rfl) (by kernel_rfl)
          refine .inl ⟨rfl, ends_value' (c := .bool true) ?_⟩
          simp [Act.eval, d39, d42, go_sem]
        | 13, ho =>
          obtain rfl := Option.some.inj ho
          have d43 : bx.tmps.getD 43 undef = .bool true := hS.dep 12 43 (by kernel_rfl) (by kernel_rfl)
          refine .inl ⟨rfl, ends_value' (c := .bool true) ?_⟩
          simp [execOp, Act.eval, d43]
        | 14, ho =>
          obtain rfl := Option.some.inj ho
          have d7 : bx.tmps.getD 7 undef = .bool true := hS.base 7 (by kernel_rfl)
          have gd : bx.tmps.getD 44 undef = .bool true := hS.dep 13 44 (by kernel_rfl) (by kernel_rfl)
          refine .inl ⟨wanted_yes (j := 13) (t := 44) (c := true) (by kernel_rfl) (by kernel_rfl) gd, ends_value' (c := .bool true) ?_⟩
          simp [execOp, Act.eval, d7]
        | 15, ho =>
          obtain rfl := Option.some.inj ho
          have d45 : bx.tmps.getD 45 undef = .bool true := hS.dep 14 45 (by kernel_rfl) (by kernel_rfl)
          have gd : bx.tmps.getD 44 undef = .bool true := hS.dep 13 44 (by kernel_rfl) (by kernel_rfl)
          refine .inl ⟨wanted_yes (j := 13) (t := 44) (c := true) (by kernel_rfl) (by kernel_rfl) gd, ends_value' (c := .bool false) ?_⟩
          simp [Act.eval, d45, go_sem]
        | 16, ho =>
          obtain rfl := Option.some.inj ho
          have d46 : bx.tmps.getD 46 undef = .bool false := hS.dep 15 46 (by kernel_rfl) (by kernel_rfl)
          have gd : bx.tmps.getD 44 undef = .bool true := hS.dep 13 44 (by kernel_rfl) (by kernel_rfl)
          refine .inl ⟨wanted_yes (j := 13) (t := 44) (c := true) (by kernel_rfl) (by kernel_rfl) gd, ends_value' (c := .bool false) ?_⟩
          simp [execOp, Act.eval, d46]
        | 17, ho =>
          obtain rfl := Option.some.inj ho
          have d6 : bx.tmps.getD 6 undef = .string S0 := hS.base 6 (by kernel_rfl)
          have gd : bx.tmps.getD 47 undef = .bool false := hS.dep 16 47 (by kernel_rfl) (by kernel_rfl)
          refine .inl ⟨wanted_yes (j := 16) (t := 47) (c := false) (by kernel_rfl) (by kernel_rfl) gd, ends_value' (c := .string S0) ?_⟩
          simp [execOp, Act.eval, d6]
        | 18, ho =>
          obtain rfl := Option.some.inj ho
          have d48 : bx.tmps.getD 48 undef = .string S0 := hS.dep 17 48 (by kernel_rfl) (by kernel_rfl)
          have gd : bx.tmps.getD 47 undef = .bool false := hS.dep 16 47 (by kernel_rfl) (by kernel_rfl)
          refine .inl ⟨wanted_yes (j := 16) (t := 47) (c := false) (by kernel_rfl) (by kernel_rfl) gd, ends_value' (c := .int .i64 13) ?_⟩
          simp [Act.eval, d48, go_sem, z0]
        | 19, ho =>
          obtain rfl := Option.some.inj ho
          have d49 : bx.tmps.getD 49 undef = .int .i64 13 := hS.dep 18 49 (by kernel_rfl) (by kernel_rfl)
          have gd : bx.tmps.getD 47 undef = .bool false := hS.dep 16 47 (by kernel_rfl) (by kernel_rfl)
          refine .inl ⟨wanted_yes (j := 16) (t := 47) (c := false) (by kernel_rfl) (by kernel_rfl) gd, ends_value' (c := .bool true) ?_⟩
          simp [Act.eval, d49, go_sem]
        | 20, ho =>
          obtain rfl := Option.some.inj ho
          have d50 : bx.tmps.getD 50 undef = .bool true := hS.dep 19 50 (by kernel_rfl) (by kernel_rfl)
          have gd : bx.tmps.getD 47 undef = .bool false := hS.dep 16 47 (by kernel_rfl) (by kernel_rfl)
          refine .inl ⟨wanted_yes (j := 16) (t := 47) (c := false) (by kernel_rfl) (by kernel_rfl) gd, ends_value' (c := .bool true) ?_⟩
          simp [execOp, Act.eval, d50]
        | 21, ho =>
          obtain rfl := Option.some.inj ho
          have d10 : bx.tmps.getD 10 undef = .string SU := hS.base 10 (by kernel_rfl)
          have gd : bx.tmps.getD 51 undef = .bool true := hS.dep 20 51 (by kernel_rfl) (by kernel_rfl)
          refine .inl ⟨wanted_yes (j := 20) (t := 51) (c := true) (by kernel_rfl) (by kernel_rfl) gd, ends_value' (c := .string SU) ?_⟩
          simp [execOp, Act.eval, d10]
        | 22, ho =>
          obtain rfl := Option.some.inj ho
          have d52 : bx.tmps.getD 52 undef = .string SU := hS.dep 21 52 (by kernel_rfl) (by kernel_rfl)
          have gd : bx.tmps.getD 51 undef = .bool true := hS.dep 20 51 (by kernel_rfl) (by kernel_rfl)
          refine .inl ⟨wanted_yes (j := 20) (t := 51) (c := true) (by kernel_rfl) (by kernel_rfl) gd, ends_value' (c := .int .i64 13) ?_⟩
          simp [Act.eval, d52, go_sem, zu]
        | 23, ho =>
          obtain rfl := Option.some.inj ho
          have d53 : bx.tmps.getD 53 undef = .int .i64 13 := hS.dep 22 53 (by kernel_rfl) (by kernel_rfl)
          have gd : bx.tmps.getD 51 undef = .bool true := hS.dep 20 51 (by kernel_rfl) (by kernel_rfl)
          refine .inl ⟨wanted_yes (j := 20) (t := 51) (c := true) (by kernel_rfl) (by kernel_rfl) gd, ends_value' (c := .bool true) ?_⟩
          simp [Act.eval, d53, go_sem]
        | 24, ho =>
          obtain rfl := Option.some.inj ho
          have d51 : bx.tmps.getD 51 undef = .bool true := hS.dep 20 51 (by kernel_rfl) (by kernel_rfl)
          have d54 : bx.tmps.getD 54 undef = .bool true := hS.dep 23 54 (by kernel_rfl) (by kernel_rfl)
          have gd : bx.tmps.getD 47 undef = .bool false := hS.dep 16 47 (by kernel_rfl) (by kernel_rfl)
          refine .inl ⟨wanted_yes (j := 16) (t := 47) (c := false) (by kernel_rfl) (by kernel_rfl) gd, ends_value' (c := .bool true) ?_⟩
          simp [Act.eval, d51, d54, go_sem]
        | 25, ho =>
          obtain rfl := Option.some.inj ho
          have d47 : bx.tmps.getD 47 undef = .bool false := hS.dep 16 47 (by kernel_rfl) (by kernel_rfl)
          have d55 : bx.tmps.getD 55 undef = .bool true := hS.dep 24 55 (by kernel_rfl) (by kernel_rfl)
          have gd : bx.tmps.getD 44 undef = .bool true := hS.dep 13 44 (by kernel_rfl) (by kernel_rfl)
          refine .inl ⟨wanted_yes (j := 13) (t := 44) (c := true) (by kernel_rfl) (by kernel_rfl) gd, ends_value' (c := .bool true) ?_⟩
          simp [Act.eval, d47, d55, go_sem]
        | 26, ho =>
          obtain rfl := Option.some.inj ho
          have d44 : bx.tmps.getD 44 undef = .bool true := hS.dep 13 44 (by kernel_rfl) (by kernel_rfl)
          have d56 : bx.tmps.getD 56 undef = .bool true := hS.dep 25 56 (by kernel_rfl) (by kernel_rfl)
          refine .inl ⟨rfl, ends_value' (c := .bool true) ?_⟩
          simp [Act.eval, d44, d56, go_sem]
        | 27, ho =>
          obtain rfl := Option.some.inj ho
          have d57 : bx.tmps.getD 57 undef = .bool true := hS.dep 26 57 (by kernel_rfl) (by kernel_rfl)
          refine .inl ⟨rfl, ends_value' (c := .bool true) ?_⟩
          simp [execOp, Act.eval, d57]
        | 28, ho =>
          obtain rfl := Option.some.inj ho
          have d7 : bx.tmps.getD 7 undef = .bool true := hS.base 7 (by kernel_rfl)
          have gd : bx.tmps.getD 58 undef = .bool true := hS.dep 27 58 (by kernel_rfl) (by kernel_rfl)
          refine .inl ⟨wanted_yes (j := 27) (t := 58) (c := true) (by kernel_rfl) (by kernel_rfl) gd, ends_value' (c := .bool true) ?_⟩
          simp [execOp, Act.eval, d7]
        | 29, ho =>
          obtain rfl := Option.some.inj ho
          have d59 : bx.tmps.getD 59 undef = .bool true := hS.dep 28 59 (by kernel_rfl) (by kernel_rfl)
          have gd : bx.tmps.getD 58 undef = .bool true := hS.dep 27 58 (by kernel_rfl) (by kernel_rfl)
          refine .inl ⟨wanted_yes (j := 27) (t := 58) (c := true) (by kernel_rfl) (by kernel_rfl) gd, ends_value' (c := .bool false) ?_⟩
          simp [Act.eval, d59, go_sem]
        | 30, ho =>
          obtain rfl := Option.some.inj ho
          have d60 : bx.tmps.getD 60 undef = .bool false := hS.dep 29 60 (by kernel_rfl) (by kernel_rfl)
          have gd : bx.tmps.getD 58 undef = .bool true := hS.dep 27 58 (by kernel_rfl) (by kernel_rfl)
          refine .inl ⟨wanted_yes (j := 27) (t := 58) (c := true) (by kernel_rfl) (by kernel_rfl) gd, ends_value' (c := .bool false) ?_⟩
          simp [execOp, Act.eval, d60]
        | 31, ho =>
          obtain rfl := Option.some.inj ho
          have d9 : bx.tmps.getD 9 undef = .bool false := hS.base 9 (by kernel_rfl)
          have gd : bx.tmps.getD 61 undef = .bool false := hS.dep 30 61 (by kernel_rfl) (by kernel_rfl)
          refine .inl ⟨wanted_yes (j := 30) (t := 61) (c := false) (by kernel_rfl) (by kernel_rfl) gd, ends_value' (c := .bool false) ?_⟩
          simp [execOp, Act.eval, d9]
        | 32, ho =>
          obtain rfl := Option.some.inj ho
          have d62 : bx.tmps.getD 62 undef = .bool false := hS.dep 31 62 (by kernel_rfl) (by kernel_rfl)
          have gd : bx.tmps.getD 61 undef = .bool false := hS.dep 30 61 (by kernel_rfl) (by kernel_rfl)
          refine .inl ⟨wanted_yes (j := 30) (t := 61) (c := false) (by kernel_rfl) (by kernel_rfl) gd, ends_value' (c := .bool true) ?_⟩
          simp [Act.eval, d62, go_sem]
        | 33, ho =>
          obtain rfl := Option.some.inj ho
          have d61 : bx.tmps.getD 61 undef = .bool false := hS.dep 30 61 (by kernel_rfl) (by kernel_rfl)
          have d63 : bx.tmps.getD 63 undef = .bool true := hS.dep 32 63 (by kernel_rfl) (by kernel_rfl)
          have gd : bx.tmps.getD 58 undef = .bool true := hS.dep 27 58 (by kernel_rfl) (by kernel_rfl)
          refine .inl ⟨wanted_yes (j := 27) (t := 58) (c := true) (by kernel_rfl) (by kernel_rfl) gd, ends_value' (c := .bool true) ?_⟩
          simp [Act.eval, d61, d63, go_sem]
        | 34, ho =>
          obtain rfl := Option.some.inj ho
          have d64 : bx.tmps.getD 64 undef = .bool true := hS.dep 33 64 (by kernel_rfl) (by kernel_rfl)
          have gd : bx.tmps.getD 58 undef = .bool true := hS.dep 27 58 (by kernel_rfl) (by kernel_rfl)
          refine .inl ⟨wanted_yes (j := 27) (t := 58) (c := true) (by kernel_rfl) (by kernel_rfl) gd, ends_value' (c := .bool true) ?_⟩
          simp [execOp, Act.eval, d64]
        | 35, ho =>
          obtain rfl := Option.some.inj ho
          have gd : bx.tmps.getD 65 undef = .bool true := hS.dep 34 65 (by kernel_rfl) (by kernel_rfl)
          exact .inr ⟨wanted_no (j := 34) (t := 65) (c := false) (by kernel_rfl) (by kernel_rfl) gd, rfl⟩
        | 36, ho =>
          obtain rfl := Option.some.inj ho
          have gd : bx.tmps.getD 65 undef = .bool true := hS.dep 34 65 (by kernel_rfl) (by kernel_rfl)
          exact .inr ⟨wanted_no (j := 34) (t := 65) (c := false) (by kernel_rfl) (by kernel_rfl) gd, rfl⟩
        | 37, ho =>
          obtain rfl := Option.some.inj ho
          have gd : bx.tmps.getD 65 undef = .bool true := hS.dep 34 65 (by kernel_rfl) (by kernel_rfl)
          exact .inr ⟨wanted_no (j := 34) (t := 65) (c := false) (by kernel_rfl) (by kernel_rfl) gd, rfl⟩
        | 38, ho =>
          obtain rfl := Option.some.inj ho
          have gd : bx.tmps.getD 65 undef = .bool true := hS.dep 34 65 (by kernel_rfl) (by kernel_rfl)
          exact .inr ⟨wanted_no (j := 34) (t := 65) (c := false) (by kernel_rfl) (by kernel_rfl) gd, rfl⟩
        | 39, ho =>
          obtain rfl := Option.some.inj ho
          have gd : bx.tmps.getD 65 undef = .bool true := hS.dep 34 65 (by kernel_rfl) (by kernel_rfl)
          exact .inr ⟨wanted_no (j := 34) (t := 65) (c := false) (by kernel_rfl) (by kernel_rfl) gd, rfl⟩
        | 40, ho =>
          obtain rfl := Option.some.inj ho
          have gd : bx.tmps.getD 65 undef = .bool true := hS.dep 34 65 (by kernel_rfl) (by kernel_rfl)
          exact .inr ⟨wanted_no (j := 34) (t := 65) (c := false) (by kernel_rfl) (by kernel_rfl) gd, rfl⟩
        | 41, ho =>
          obtain rfl := Option.some.inj ho
          have gd : bx.tmps.getD 65 undef = .bool true := hS.dep 34 65 (by kernel_rfl) (by kernel_rfl)
          exact .inr ⟨wanted_no (j := 34) (t := 65) (c := false) (by kernel_rfl) (by kernel_rfl) gd, rfl⟩
        | 42, ho =>
          obtain rfl := Option.some.inj ho
          have d65 : bx.tmps.getD 65 undef = .bool true := hS.dep 34 65 (by kernel_rfl) (by kernel_rfl)
          have d72 : bx.tmps.getD 72 undef = undef := hS.dep 41 72 (by kernel_rfl) (by kernel_rfl)
          have gd : bx.tmps.getD 58 undef = .bool true := hS.dep 27 58 (by kernel_rfl) (by kernel_rfl)
          refine .inl ⟨wanted_yes (j := 27) (t := 58) (c := true) (by kernel_rfl) (by kernel_rfl) gd, ends_value' (c := .bool true) ?_⟩
          simp [Act.eval, d65, d72, go_sem]
        | 43, ho =>
          obtain rfl := Option.some.inj ho
          have d58 : bx.tmps.getD 58 undef = .bool true := hS.dep 27 58 (by kernel_rfl) (by kernel_rfl)
          have d73 : bx.tmps.getD 73 undef = .bool true := hS.dep 42 73 (by kernel_rfl) (by kernel_rfl)
          refine .inl ⟨rfl, ends_value' (c := .bool true) ?_⟩
          simp [Act.eval, d58, d73, go_sem]
        | 44, ho =>
          obtain rfl := Option.some.inj ho
          have d74 : bx.tmps.getD 74 undef = .bool true := hS.dep 43 74 (by kernel_rfl) (by kernel_rfl)
          refine .inl ⟨rfl, ends_value' (c := .bool true) ?_⟩
          simp [execOp, Act.eval, d74]
        | n + 45, ho => exact absurd ho (by simp)
      case fin =>
        intro u hbel
        simp [putAll, dstAt, Act.put]
        have HB2 := hide (Below.then (unhide HB) (show Below w5.heap.size w5 u from ⟨hbel.os, hbel.tape, hbel.output, hbel.size, hbel.block⟩))
        clear up up1 r5 s5 hbel HR5
        go_wp2_with fail
        go_ret
        exact ⟨rfl, unhide HB2⟩
    | true =>
      by_cases he : a0 = a1
      · obtain ⟨e1, -⟩ := HS.out he
        subst he
        subst e1
        refine wp_region_grow (by kernel_rfl) [.bool true, .bool true, a0.val, (revT a0).val, a0.val, a0.val, .bool true, .bool true, .bool true, .bool true, .bool true, .bool true, .bool true, .bool true, .bool true, .bool false, .bool false, .string S0, .int .i64 13, .bool true, .bool true, .string SU, .int .i64 13, .bool true, .bool true, .bool true, .bool true, .bool true, .bool true, .bool false, .bool false, .bool true, .bool false, .bool false, .bool false, .string S0, .string S0, .bool true, a0.val, a0.val, .bool true, .bool true, .bool true, .bool true, .bool true] (by kernel_rfl) ?op ?fin
        case op =>
          intro i o bx u ho hbel hS
          match i, ho with
          | 0, ho =>
            obtain rfl := Option.some.inj ho
            have d5 : bx.tmps.getD 5 undef = .bool true := hS.base 5 (by kernel_rfl)
            refine .inl ⟨rfl, ends_value' (c := .bool true) ?_⟩
            simp [execOp, Act.eval, d5]
          | 1, ho =>
            obtain rfl := Option.some.inj ho
            have d31 : bx.tmps.getD 31 undef = .bool true := hS.dep 0 31 (by kernel_rfl) (by kernel_rfl)
            refine .inl ⟨rfl, ends_value' (c := .bool true) ?_⟩
            simp [execOp, Act.eval, d31]
          | 2, ho =>
            obtain rfl := Option.some.inj ho
            have d2 : bx.tmps.getD 2 undef = .pointer (some ⟨w.heap.size, 0, none⟩) := hS.base 2 (by kernel_rfl)
            have gd : bx.tmps.getD 32 undef = .bool true := hS.dep 1 32 (by kernel_rfl) (by kernel_rfl)
            have v0 := (up u hbel).cell 0 _ rfl
            have v1 := (up u hbel).cell 1 _ rfl
            have v2 := (up u hbel).cell 2 _ rfl
            have v3 := (up u hbel).cell 3 _ rfl
            have v4 := (up u hbel).cell 4 _ rfl
            refine .inl ⟨wanted_yes (j := 1) (t := 32) (c := true) (by kernel_rfl) (by kernel_rfl) gd, ends_value' (c := a0.val) ?_⟩
            simp [Act.eval, d2, go_sem, v0, v1, v2, v3, v4]
          | 3, ho =>
            obtain rfl := Option.some.inj ho
            have d33 : bx.tmps.getD 33 undef = a0.val := hS.dep 2 33 (by kernel_rfl) (by kernel_rfl)
            have gd : bx.tmps.getD 32 undef = .bool true := hS.dep 1 32 (by kernel_rfl) (by kernel_rfl)
            refine .inl ⟨wanted_yes (j := 1) (t := 32) (c := true) (by kernel_rfl) (by kernel_rfl) gd, ends_call' (c := (revT a0).val) (f := 11) (args := #[a0.val]) ?_ (unhide V1 u)⟩
            simp [Act.eval, d33, go_sem]
          | 4, ho =>
            obtain rfl := Option.some.inj ho
            have d34 : bx.tmps.getD 34 undef = (revT a0).val := hS.dep 3 34 (by kernel_rfl) (by kernel_rfl)
            have gd : bx.tmps.getD 32 undef = .bool true := hS.dep 1 32 (by kernel_rfl) (by kernel_rfl)
            refine .inl ⟨wanted_yes (j := 1) (t := 32) (c := true) (by kernel_rfl) (by kernel_rfl) gd, ends_call' (c := a0.val) (f := 11) (args := #[(revT a0).val]) ?_ (unhide V2 u)⟩
            simp [Act.eval, d34, go_sem]
          | 5, ho =>
            obtain rfl := Option.some.inj ho
            have d2 : bx.tmps.getD 2 undef = .pointer (some ⟨w.heap.size, 0, none⟩) := hS.base 2 (by kernel_rfl)
            have gd : bx.tmps.getD 32 undef = .bool true := hS.dep 1 32 (by kernel_rfl) (by kernel_rfl)
            have v0 := (up u hbel).cell 0 _ rfl
            have v1 := (up u hbel).cell 1 _ rfl
            have v2 := (up u hbel).cell 2 _ rfl
            have v3 := (up u hbel).cell 3 _ rfl
            have v4 := (up u hbel).cell 4 _ rfl
            refine .inl ⟨wanted_yes (j := 1) (t := 32) (c := true) (by kernel_rfl) (by kernel_rfl) gd, ends_value' (c := a0.val) ?_⟩
            simp [Act.eval, d2, go_sem, v0, v1, v2, v3, v4]
          | 6, ho =>
            obtain rfl := Option.some.inj ho
            have d35 : bx.tmps.getD 35 undef = a0.val := hS.dep 4 35 (by kernel_rfl) (by kernel_rfl)
            have d36 : bx.tmps.getD 36 undef = a0.val := hS.dep 5 36 (by kernel_rfl) (by kernel_rfl)
            have gd : bx.tmps.getD 32 undef = .bool true := hS.dep 1 32 (by kernel_rfl) (by kernel_rfl)
            refine .inl ⟨wanted_yes (j := 1) (t := 32) (c := true) (by kernel_rfl) (by kernel_rfl) gd, ends_value' (c := .bool true) ?_⟩
            simp [Act.eval, d35, d36, go_sem]
          | 7, ho =>
            obtain rfl := Option.some.inj ho
            have d32 : bx.tmps.getD 32 undef = .bool true := hS.dep 1 32 (by kernel_rfl) (by kernel_rfl)
            have d37 : bx.tmps.getD 37 undef = .bool true := hS.dep 6 37 (by kernel_rfl) (by kernel_rfl)
            refine .inl ⟨rfl, ends_value' (c := .bool true) ?_⟩
            simp [Act.eval, d32, d37, go_sem]
          | 8, ho =>
            obtain rfl := Option.some.inj ho
            have d38 : bx.tmps.getD 38 undef = .bool true := hS.dep 7 38 (by kernel_rfl) (by kernel_rfl)
            refine .inl ⟨rfl, ends_value' (c := .bool true) ?_⟩
            simp [execOp, Act.eval, d38]
          | 9, ho =>
            obtain rfl := Option.some.inj ho
            have d7 : bx.tmps.getD 7 undef = .bool true := hS.base 7 (by kernel_rfl)
            have gd : bx.tmps.getD 39 undef = .bool true := hS.dep 8 39 (by kernel_rfl) (by kernel_rfl)
            refine .inl ⟨wanted_yes (j := 8) (t := 39) (c := true) (by kernel_rfl) (by kernel_rfl) gd, ends_value' (c := .bool true) ?_⟩
            simp [execOp, Act.eval, d7]
          | 10, ho =>
            obtain rfl := Option.some.inj ho
            have d11 : bx.tmps.getD 11 undef = .bool true := hS.base 11 (by kernel_rfl)
            have gd : bx.tmps.getD 39 undef = .bool true := hS.dep 8 39 (by kernel_rfl) (by kernel_rfl)
            refine .inl ⟨wanted_yes (j := 8) (t := 39) (c := true) (by kernel_rfl) (by kernel_rfl) gd, ends_value' (c := .bool true) ?_⟩
            simp [execOp, Act.eval, d11]
          | 11, ho =>
            obtain rfl := Option.some.inj ho
            have d40 : bx.tmps.getD 40 undef = .bool true := hS.dep 9 40 (by kernel_rfl) (by kernel_rfl)
            have d41 : bx.tmps.getD 41 undef = .bool true := hS.dep 10 41 (by kernel_rfl) (by kernel_rfl)
            have gd : bx.tmps.getD 39 undef = .bool true := hS.dep 8 39 (by kernel_rfl) (by kernel_rfl)
            refine .inl ⟨wanted_yes (j := 8) (t := 39) (c := true) (by kernel_rfl) (by kernel_rfl) gd, ends_value' (c := .bool true) ?_⟩
            simp [Act.eval, d40, d41, go_sem]
          | 12, ho =>
            obtain rfl := Option.some.inj ho
            have d39 : bx.tmps.getD 39 undef = .bool true := hS.dep 8 39 (by kernel_rfl) (by kernel_rfl)
            have d42 : bx.tmps.getD 42 undef = .bool true := hS.dep 11 42 (by kernel_rfl) (by kernel_rfl)
            refine .inl ⟨rfl, ends_value' (c := .bool true) ?_⟩
            simp [Act.eval, d39, d42, go_sem]
          | 13, ho =>
            obtain rfl := Option.some.inj ho
            have d43 : bx.tmps.getD 43 undef = .bool true := hS.dep 12 43 (by kernel_rfl) (by kernel_rfl)
            refine .inl ⟨rfl, ends_value' (c := .bool true) ?_⟩
            simp [execOp, Act.eval, d43]
          | 14, ho =>
            obtain rfl := Option.some.inj ho
            have d7 : bx.tmps.getD 7 undef = .bool true := hS.base 7 (by kernel_rfl)
            have gd : bx.tmps.getD 44 undef = .bool true := hS.dep 13 44 (by kernel_rfl) (by kernel_rfl)
            refine .inl ⟨wanted_yes (j := 13) (t := 44) (c := true) (by kernel_rfl) (by kernel_rfl) gd, ends_value' (c := .bool true) ?_⟩
            simp [execOp, Act.eval, d7]
          | 15, ho =>
            obtain rfl := Option.some.inj ho
            have d45 : bx.tmps.getD 45 undef = .bool true := hS.dep 14 45 (by kernel_rfl) (by kernel_rfl)
            have gd : bx.tmps.getD 44 undef = .bool true := hS.dep 13 44 (by kernel_rfl) (by kernel_rfl)
            refine .inl ⟨wanted_yes (j := 13) (t := 44) (c := true) (by kernel_rfl) (by kernel_rfl) gd, ends_value' (c := .bool false) ?_⟩
            simp [Act.eval, d45, go_sem]
          | 16, ho =>
            obtain rfl := Option.some.inj ho
            have d46 : bx.tmps.getD 46 undef = .bool false := hS.dep 15 46 (by kernel_rfl) (by kernel_rfl)
            have gd : bx.tmps.getD 44 undef = .bool true := hS.dep 13 44 (by kernel_rfl) (by kernel_rfl)
            refine .inl ⟨wanted_yes (j := 13) (t := 44) (c := true) (by kernel_rfl) (by kernel_rfl) gd, ends_value' (c := .bool false) ?_⟩
            simp [execOp, Act.eval, d46]
          | 17, ho =>
            obtain rfl := Option.some.inj ho
            have d6 : bx.tmps.getD 6 undef = .string S0 := hS.base 6 (by kernel_rfl)
            have gd : bx.tmps.getD 47 undef = .bool false := hS.dep 16 47 (by kernel_rfl) (by kernel_rfl)
            refine .inl ⟨wanted_yes (j := 16) (t := 47) (c := false) (by kernel_rfl) (by kernel_rfl) gd, ends_value' (c := .string S0) ?_⟩
            simp [execOp, Act.eval, d6]
          | 18, ho =>
            obtain rfl := Option.some.inj ho
            have d48 : bx.tmps.getD 48 undef = .string S0 := hS.dep 17 48 (by kernel_rfl) (by kernel_rfl)
            have gd : bx.tmps.getD 47 undef = .bool false := hS.dep 16 47 (by kernel_rfl) (by kernel_rfl)
            refine .inl ⟨wanted_yes (j := 16) (t := 47) (c := false) (by kernel_rfl) (by kernel_rfl) gd, ends_value' (c := .int .i64 13) ?_⟩
            simp [Act.eval, d48, go_sem, z0]
          | 19, ho =>
            obtain rfl := Option.some.inj ho
            have d49 : bx.tmps.getD 49 undef = .int .i64 13 := hS.dep 18 49 (by kernel_rfl) (by kernel_rfl)
            have gd : bx.tmps.getD 47 undef = .bool false := hS.dep 16 47 (by kernel_rfl) (by kernel_rfl)
            refine .inl ⟨wanted_yes (j := 16) (t := 47) (c := false) (by kernel_rfl) (by kernel_rfl) gd, ends_value' (c := .bool true) ?_⟩
            simp [Act.eval, d49, go_sem]
          | 20, ho =>
            obtain rfl := Option.some.inj ho
            have d50 : bx.tmps.getD 50 undef = .bool true := hS.dep 19 50 (by kernel_rfl) (by kernel_rfl)
            have gd : bx.tmps.getD 47 undef = .bool false := hS.dep 16 47 (by kernel_rfl) (by kernel_rfl)
            refine .inl ⟨wanted_yes (j := 16) (t := 47) (c := false) (by kernel_rfl) (by kernel_rfl) gd, ends_value' (c := .bool true) ?_⟩
            simp [execOp, Act.eval, d50]
          | 21, ho =>
            obtain rfl := Option.some.inj ho
            have d10 : bx.tmps.getD 10 undef = .string SU := hS.base 10 (by kernel_rfl)
            have gd : bx.tmps.getD 51 undef = .bool true := hS.dep 20 51 (by kernel_rfl) (by kernel_rfl)
            refine .inl ⟨wanted_yes (j := 20) (t := 51) (c := true) (by kernel_rfl) (by kernel_rfl) gd, ends_value' (c := .string SU) ?_⟩
            simp [execOp, Act.eval, d10]
          | 22, ho =>
            obtain rfl := Option.some.inj ho
            have d52 : bx.tmps.getD 52 undef = .string SU := hS.dep 21 52 (by kernel_rfl) (by kernel_rfl)
            have gd : bx.tmps.getD 51 undef = .bool true := hS.dep 20 51 (by kernel_rfl) (by kernel_rfl)
            refine .inl ⟨wanted_yes (j := 20) (t := 51) (c := true) (by kernel_rfl) (by kernel_rfl) gd, ends_value' (c := .int .i64 13) ?_⟩
            simp [Act.eval, d52, go_sem, zu]
          | 23, ho =>
            obtain rfl := Option.some.inj ho
            have d53 : bx.tmps.getD 53 undef = .int .i64 13 := hS.dep 22 53 (by kernel_rfl) (by kernel_rfl)
            have gd : bx.tmps.getD 51 undef = .bool true := hS.dep 20 51 (by kernel_rfl) (by kernel_rfl)
            refine .inl ⟨wanted_yes (j := 20) (t := 51) (c := true) (by kernel_rfl) (by kernel_rfl) gd, ends_value' (c := .bool true) ?_⟩
            simp [Act.eval, d53, go_sem]
          | 24, ho =>
            obtain rfl := Option.some.inj ho
            have d51 : bx.tmps.getD 51 undef = .bool true := hS.dep 20 51 (by kernel_rfl) (by kernel_rfl)
            have d54 : bx.tmps.getD 54 undef = .bool true := hS.dep 23 54 (by kernel_rfl) (by kernel_rfl)
            have gd : bx.tmps.getD 47 undef = .bool false := hS.dep 16 47 (by kernel_rfl) (by kernel_rfl)
            refine .inl ⟨wanted_yes (j := 16) (t := 47) (c := false) (by kernel_rfl) (by kernel_rfl) gd, ends_value' (c := .bool true) ?_⟩
            simp [Act.eval, d51, d54, go_sem]
          | 25, ho =>
            obtain rfl := Option.some.inj ho
            have d47 : bx.tmps.getD 47 undef = .bool false := hS.dep 16 47 (by kernel_rfl) (by kernel_rfl)
            have d55 : bx.tmps.getD 55 undef = .bool true := hS.dep 24 55 (by kernel_rfl) (by kernel_rfl)
            have gd : bx.tmps.getD 44 undef = .bool true := hS.dep 13 44 (by kernel_rfl) (by kernel_rfl)
            refine .inl ⟨wanted_yes (j := 13) (t := 44) (c := true) (by kernel_rfl) (by kernel_rfl) gd, ends_value' (c := .bool true) ?_⟩
            simp [Act.eval, d47, d55, go_sem]
          | 26, ho =>
            obtain rfl := Option.some.inj ho
            have d44 : bx.tmps.getD 44 undef = .bool true := hS.dep 13 44 (by kernel_rfl) (by kernel_rfl)
            have d56 : bx.tmps.getD 56 undef = .bool true := hS.dep 25 56 (by kernel_rfl) (by kernel_rfl)
            refine .inl ⟨rfl, ends_value' (c := .bool true) ?_⟩
            simp [Act.eval, d44, d56, go_sem]
          | 27, ho =>
            obtain rfl := Option.some.inj ho
            have d57 : bx.tmps.getD 57 undef = .bool true := hS.dep 26 57 (by kernel_rfl) (by kernel_rfl)
            refine .inl ⟨rfl, ends_value' (c := .bool true) ?_⟩
            simp [execOp, Act.eval, d57]
          | 28, ho =>
            obtain rfl := Option.some.inj ho
            have d7 : bx.tmps.getD 7 undef = .bool true := hS.base 7 (by kernel_rfl)
            have gd : bx.tmps.getD 58 undef = .bool true := hS.dep 27 58 (by kernel_rfl) (by kernel_rfl)
            refine .inl ⟨wanted_yes (j := 27) (t := 58) (c := true) (by kernel_rfl) (by kernel_rfl) gd, ends_value' (c := .bool true) ?_⟩
            simp [execOp, Act.eval, d7]
          | 29, ho =>
            obtain rfl := Option.some.inj ho
            have d59 : bx.tmps.getD 59 undef = .bool true := hS.dep 28 59 (by kernel_rfl) (by kernel_rfl)
            have gd : bx.tmps.getD 58 undef = .bool true := hS.dep 27 58 (by kernel_rfl) (by kernel_rfl)
            refine .inl ⟨wanted_yes (j := 27) (t := 58) (c := true) (by kernel_rfl) (by kernel_rfl) gd, ends_value' (c := .bool false) ?_⟩
            simp [Act.eval, d59, go_sem]
          | 30, ho =>
            obtain rfl := Option.some.inj ho
            have d60 : bx.tmps.getD 60 undef = .bool false := hS.dep 29 60 (by kernel_rfl) (by kernel_rfl)
            have gd : bx.tmps.getD 58 undef = .bool true := hS.dep 27 58 (by kernel_rfl) (by kernel_rfl)
            refine .inl ⟨wanted_yes (j := 27) (t := 58) (c := true) (by kernel_rfl) (by kernel_rfl) gd, ends_value' (c := .bool false) ?_⟩
            simp [execOp, Act.eval, d60]
          | 31, ho =>
            obtain rfl := Option.some.inj ho
            have d9 : bx.tmps.getD 9 undef = .bool true := hS.base 9 (by kernel_rfl)
            have gd : bx.tmps.getD 61 undef = .bool false := hS.dep 30 61 (by kernel_rfl) (by kernel_rfl)
            refine .inl ⟨wanted_yes (j := 30) (t := 61) (c := false) (by kernel_rfl) (by kernel_rfl) gd, ends_value' (c := .bool true) ?_⟩
            simp [execOp, Act.eval, d9]
          | 32, ho =>
            obtain rfl := Option.some.inj ho
            have d62 : bx.tmps.getD 62 undef = .bool true := hS.dep 31 62 (by kernel_rfl) (by kernel_rfl)
            have gd : bx.tmps.getD 61 undef = .bool false := hS.dep 30 61 (by kernel_rfl) (by kernel_rfl)
            refine .inl ⟨wanted_yes (j := 30) (t := 61) (c := false) (by kernel_rfl) (by kernel_rfl) gd, ends_value' (c := .bool false) ?_⟩
            simp [Act.eval, d62, go_sem]
          | 33, ho =>
            obtain rfl := Option.some.inj ho
            have d61 : bx.tmps.getD 61 undef = .bool false := hS.dep 30 61 (by kernel_rfl) (by kernel_rfl)
            have d63 : bx.tmps.getD 63 undef = .bool false := hS.dep 32 63 (by kernel_rfl) (by kernel_rfl)
            have gd : bx.tmps.getD 58 undef = .bool true := hS.dep 27 58 (by kernel_rfl) (by kernel_rfl)
            refine .inl ⟨wanted_yes (j := 27) (t := 58) (c := true) (by kernel_rfl) (by kernel_rfl) gd, ends_value' (c := .bool false) ?_⟩
            simp [Act.eval, d61, d63, go_sem]
          | 34, ho =>
            obtain rfl := Option.some.inj ho
            have d64 : bx.tmps.getD 64 undef = .bool false := hS.dep 33 64 (by kernel_rfl) (by kernel_rfl)
            have gd : bx.tmps.getD 58 undef = .bool true := hS.dep 27 58 (by kernel_rfl) (by kernel_rfl)
            refine .inl ⟨wanted_yes (j := 27) (t := 58) (c := true) (by kernel_rfl) (by kernel_rfl) gd, ends_value' (c := .bool false) ?_⟩
            simp [execOp, Act.eval, d64]
          | 35, ho =>
            obtain rfl := Option.some.inj ho
            have d6 : bx.tmps.getD 6 undef = .string S0 := hS.base 6 (by kernel_rfl)
            have gd : bx.tmps.getD 65 undef = .bool false := hS.dep 34 65 (by kernel_rfl) (by kernel_rfl)
            refine .inl ⟨wanted_yes (j := 34) (t := 65) (c := false) (by kernel_rfl) (by kernel_rfl) gd, ends_value' (c := .string S0) ?_⟩
            simp [execOp, Act.eval, d6]
          | 36, ho =>
            obtain rfl := Option.some.inj ho
            have d8 : bx.tmps.getD 8 undef = .string S0 := hS.base 8 (by kernel_rfl)
            have gd : bx.tmps.getD 65 undef = .bool false := hS.dep 34 65 (by kernel_rfl) (by kernel_rfl)
            refine .inl ⟨wanted_yes (j := 34) (t := 65) (c := false) (by kernel_rfl) (by kernel_rfl) gd, ends_value' (c := .string S0) ?_⟩
            simp [execOp, Act.eval, d8]
          | 37, ho =>
            obtain rfl := Option.some.inj ho
            have d66 : bx.tmps.getD 66 undef = .string S0 := hS.dep 35 66 (by kernel_rfl) (by kernel_rfl)
            have d67 : bx.tmps.getD 67 undef = .string S0 := hS.dep 36 67 (by kernel_rfl) (by kernel_rfl)
            have gd : bx.tmps.getD 65 undef = .bool false := hS.dep 34 65 (by kernel_rfl) (by kernel_rfl)
            refine .inl ⟨wanted_yes (j := 34) (t := 65) (c := false) (by kernel_rfl) (by kernel_rfl) gd, ends_value' (c := .bool true) ?_⟩
            simp [Act.eval, d66, d67, go_sem]
          | 38, ho =>
            obtain rfl := Option.some.inj ho
            have d2 : bx.tmps.getD 2 undef = .pointer (some ⟨w.heap.size, 0, none⟩) := hS.base 2 (by kernel_rfl)
            have gd : bx.tmps.getD 65 undef = .bool false := hS.dep 34 65 (by kernel_rfl) (by kernel_rfl)
            have v0 := (up u hbel).cell 0 _ rfl
            have v1 := (up u hbel).cell 1 _ rfl
            have v2 := (up u hbel).cell 2 _ rfl
            have v3 := (up u hbel).cell 3 _ rfl
            have v4 := (up u hbel).cell 4 _ rfl
            refine .inl ⟨wanted_yes (j := 34) (t := 65) (c := false) (by kernel_rfl) (by kernel_rfl) gd, ends_value' (c := a0.val) ?_⟩
            simp [Act.eval, d2, go_sem, v0, v1, v2, v3, v4]
          | 39, ho =>
            obtain rfl := Option.some.inj ho
            have d3 : bx.tmps.getD 3 undef = .pointer (some ⟨w.heap.size + 1, 0, none⟩) := hS.base 3 (by kernel_rfl)
            have gd : bx.tmps.getD 65 undef = .bool false := hS.dep 34 65 (by kernel_rfl) (by kernel_rfl)
            have v0 := (up1 u hbel).cell 0 _ rfl
            have v1 := (up1 u hbel).cell 1 _ rfl
            have v2 := (up1 u hbel).cell 2 _ rfl
            have v3 := (up1 u hbel).cell 3 _ rfl
            have v4 := (up1 u hbel).cell 4 _ rfl
            refine .inl ⟨wanted_yes (j := 34) (t := 65) (c := false) (by kernel_rfl) (by kernel_rfl) gd, ends_value' (c := a0.val) ?_⟩
            simp [Act.eval, d3, go_sem, v0, v1, v2, v3, v4]
          | 40, ho =>
            obtain rfl := Option.some.inj ho
            have d69 : bx.tmps.getD 69 undef = a0.val := hS.dep 38 69 (by kernel_rfl) (by kernel_rfl)
            have d70 : bx.tmps.getD 70 undef = a0.val := hS.dep 39 70 (by kernel_rfl) (by kernel_rfl)
            have gd : bx.tmps.getD 65 undef = .bool false := hS.dep 34 65 (by kernel_rfl) (by kernel_rfl)
            refine .inl ⟨wanted_yes (j := 34) (t := 65) (c := false) (by kernel_rfl) (by kernel_rfl) gd, ends_value' (c := .bool true) ?_⟩
            simp [Act.eval, d69, d70, go_sem]
          | 41, ho =>
            obtain rfl := Option.some.inj ho
            have d68 : bx.tmps.getD 68 undef = .bool true := hS.dep 37 68 (by kernel_rfl) (by kernel_rfl)
            have d71 : bx.tmps.getD 71 undef = .bool true := hS.dep 40 71 (by kernel_rfl) (by kernel_rfl)
            have gd : bx.tmps.getD 65 undef = .bool false := hS.dep 34 65 (by kernel_rfl) (by kernel_rfl)
            refine .inl ⟨wanted_yes (j := 34) (t := 65) (c := false) (by kernel_rfl) (by kernel_rfl) gd, ends_value' (c := .bool true) ?_⟩
            simp [Act.eval, d68, d71, go_sem]
          | 42, ho =>
            obtain rfl := Option.some.inj ho
            have d65 : bx.tmps.getD 65 undef = .bool false := hS.dep 34 65 (by kernel_rfl) (by kernel_rfl)
            have d72 : bx.tmps.getD 72 undef = .bool true := hS.dep 41 72 (by kernel_rfl) (by kernel_rfl)
            have gd : bx.tmps.getD 58 undef = .bool true := hS.dep 27 58 (by kernel_rfl) (by kernel_rfl)
            refine .inl ⟨wanted_yes (j := 27) (t := 58) (c := true) (by kernel_rfl) (by kernel_rfl) gd, ends_value' (c := .bool true) ?_⟩
            simp [Act.eval, d65, d72, go_sem]
          | 43, ho =>
            obtain rfl := Option.some.inj ho
            have d58 : bx.tmps.getD 58 undef = .bool true := hS.dep 27 58 (by kernel_rfl) (by kernel_rfl)
            have d73 : bx.tmps.getD 73 undef = .bool true := hS.dep 42 73 (by kernel_rfl) (by kernel_rfl)
            refine .inl ⟨rfl, ends_value' (c := .bool true) ?_⟩
            simp [Act.eval, d58, d73, go_sem]
          | 44, ho =>
            obtain rfl := Option.some.inj ho
            have d74 : bx.tmps.getD 74 undef = .bool true := hS.dep 43 74 (by kernel_rfl) (by kernel_rfl)
            refine .inl ⟨rfl, ends_value' (c := .bool true) ?_⟩
            simp [execOp, Act.eval, d74]
          | n + 45, ho => exact absurd ho (by simp)
        case fin =>
          intro u hbel
          simp [putAll, dstAt, Act.put]
          have HB2 := hide (Below.then (unhide HB) (show Below w5.heap.size w5 u from ⟨hbel.os, hbel.tape, hbel.output, hbel.size, hbel.block⟩))
          clear up up1 r5 s5 hbel HR5
          go_wp2_with fail
          go_ret
          exact ⟨rfl, unhide HB2⟩
      · have hs : (S0.toList == S1.toList) = false := by
          cases hb : (S0.toList == S1.toList) with
          | false => rfl
          | true => exact absurd ((unhide HI) rfl rfl (Oct.ba_ext (by have h2 : S0.toList = S1.toList := (by simpa using hb); rwa [ByteArray.toList_eq, ByteArray.toList_eq] at h2))) he
        have hq := ne_fields he
        refine wp_region_grow (by kernel_rfl) [.bool true, .bool true, a0.val, (revT a0).val, a0.val, a0.val, .bool true, .bool true, .bool true, .bool true, .bool true, .bool true, .bool true, .bool true, .bool true, .bool false, .bool false, .string S0, .int .i64 13, .bool true, .bool true, .string SU, .int .i64 13, .bool true, .bool true, .bool true, .bool true, .bool true, .bool true, .bool false, .bool false, .bool true, .bool false, .bool false, .bool false, .string S0, .string S1, .bool false, a0.val, a1.val, .bool false, .bool true, .bool true, .bool true, .bool true] (by kernel_rfl) ?op ?fin
        case op =>
          intro i o bx u ho hbel hS
          match i, ho with
          | 0, ho =>
            obtain rfl := Option.some.inj ho
            have d5 : bx.tmps.getD 5 undef = .bool true := hS.base 5 (by kernel_rfl)
            refine .inl ⟨rfl, ends_value' (c := .bool true) ?_⟩
            simp [execOp, Act.eval, d5]
          | 1, ho =>
            obtain rfl := Option.some.inj ho
            have d31 : bx.tmps.getD 31 undef = .bool true := hS.dep 0 31 (by kernel_rfl) (by kernel_rfl)
            refine .inl ⟨rfl, ends_value' (c := .bool true) ?_⟩
            simp [execOp, Act.eval, d31]
          | 2, ho =>
            obtain rfl := Option.some.inj ho
            have d2 : bx.tmps.getD 2 undef = .pointer (some ⟨w.heap.size, 0, none⟩) := hS.base 2 (by kernel_rfl)
            have gd : bx.tmps.getD 32 undef = .bool true := hS.dep 1 32 (by kernel_rfl) (by kernel_rfl)
            have v0 := (up u hbel).cell 0 _ rfl
            have v1 := (up u hbel).cell 1 _ rfl
            have v2 := (up u hbel).cell 2 _ rfl
            have v3 := (up u hbel).cell 3 _ rfl
            have v4 := (up u hbel).cell 4 _ rfl
            refine .inl ⟨wanted_yes (j := 1) (t := 32) (c := true) (by kernel_rfl) (by kernel_rfl) gd, ends_value' (c := a0.val) ?_⟩
            simp [Act.eval, d2, go_sem, v0, v1, v2, v3, v4]
          | 3, ho =>
            obtain rfl := Option.some.inj ho
            have d33 : bx.tmps.getD 33 undef = a0.val := hS.dep 2 33 (by kernel_rfl) (by kernel_rfl)
            have gd : bx.tmps.getD 32 undef = .bool true := hS.dep 1 32 (by kernel_rfl) (by kernel_rfl)
            refine .inl ⟨wanted_yes (j := 1) (t := 32) (c := true) (by kernel_rfl) (by kernel_rfl) gd, ends_call' (c := (revT a0).val) (f := 11) (args := #[a0.val]) ?_ (unhide V1 u)⟩
            simp [Act.eval, d33, go_sem]
          | 4, ho =>
            obtain rfl := Option.some.inj ho
            have d34 : bx.tmps.getD 34 undef = (revT a0).val := hS.dep 3 34 (by kernel_rfl) (by kernel_rfl)
            have gd : bx.tmps.getD 32 undef = .bool true := hS.dep 1 32 (by kernel_rfl) (by kernel_rfl)
            refine .inl ⟨wanted_yes (j := 1) (t := 32) (c := true) (by kernel_rfl) (by kernel_rfl) gd, ends_call' (c := a0.val) (f := 11) (args := #[(revT a0).val]) ?_ (unhide V2 u)⟩
            simp [Act.eval, d34, go_sem]
          | 5, ho =>
            obtain rfl := Option.some.inj ho
            have d2 : bx.tmps.getD 2 undef = .pointer (some ⟨w.heap.size, 0, none⟩) := hS.base 2 (by kernel_rfl)
            have gd : bx.tmps.getD 32 undef = .bool true := hS.dep 1 32 (by kernel_rfl) (by kernel_rfl)
            have v0 := (up u hbel).cell 0 _ rfl
            have v1 := (up u hbel).cell 1 _ rfl
            have v2 := (up u hbel).cell 2 _ rfl
            have v3 := (up u hbel).cell 3 _ rfl
            have v4 := (up u hbel).cell 4 _ rfl
            refine .inl ⟨wanted_yes (j := 1) (t := 32) (c := true) (by kernel_rfl) (by kernel_rfl) gd, ends_value' (c := a0.val) ?_⟩
            simp [Act.eval, d2, go_sem, v0, v1, v2, v3, v4]
          | 6, ho =>
            obtain rfl := Option.some.inj ho
            have d35 : bx.tmps.getD 35 undef = a0.val := hS.dep 4 35 (by kernel_rfl) (by kernel_rfl)
            have d36 : bx.tmps.getD 36 undef = a0.val := hS.dep 5 36 (by kernel_rfl) (by kernel_rfl)
            have gd : bx.tmps.getD 32 undef = .bool true := hS.dep 1 32 (by kernel_rfl) (by kernel_rfl)
            refine .inl ⟨wanted_yes (j := 1) (t := 32) (c := true) (by kernel_rfl) (by kernel_rfl) gd, ends_value' (c := .bool true) ?_⟩
            simp [Act.eval, d35, d36, go_sem]
          | 7, ho =>
            obtain rfl := Option.some.inj ho
            have d32 : bx.tmps.getD 32 undef = .bool true := hS.dep 1 32 (by kernel_rfl) (by kernel_rfl)
            have d37 : bx.tmps.getD 37 undef = .bool true := hS.dep 6 37 (by kernel_rfl) (by kernel_rfl)
            refine .inl ⟨rfl, ends_value' (c := .bool true) ?_⟩
            simp [Act.eval, d32, d37, go_sem]
          | 8, ho =>
            obtain rfl := Option.some.inj ho
            have d38 : bx.tmps.getD 38 undef = .bool true := hS.dep 7 38 (by kernel_rfl) (by kernel_rfl)
            refine .inl ⟨rfl, ends_value' (c := .bool true) ?_⟩
            simp [execOp, Act.eval, d38]
          | 9, ho =>
            obtain rfl := Option.some.inj ho
            have d7 : bx.tmps.getD 7 undef = .bool true := hS.base 7 (by kernel_rfl)
            have gd : bx.tmps.getD 39 undef = .bool true := hS.dep 8 39 (by kernel_rfl) (by kernel_rfl)
            refine .inl ⟨wanted_yes (j := 8) (t := 39) (c := true) (by kernel_rfl) (by kernel_rfl) gd, ends_value' (c := .bool true) ?_⟩
            simp [execOp, Act.eval, d7]
          | 10, ho =>
            obtain rfl := Option.some.inj ho
            have d11 : bx.tmps.getD 11 undef = .bool true := hS.base 11 (by kernel_rfl)
            have gd : bx.tmps.getD 39 undef = .bool true := hS.dep 8 39 (by kernel_rfl) (by kernel_rfl)
            refine .inl ⟨wanted_yes (j := 8) (t := 39) (c := true) (by kernel_rfl) (by kernel_rfl) gd, ends_value' (c := .bool true) ?_⟩
            simp [execOp, Act.eval, d11]
          | 11, ho =>
            obtain rfl := Option.some.inj ho
            have d40 : bx.tmps.getD 40 undef = .bool true := hS.dep 9 40 (by kernel_rfl) (by kernel_rfl)
            have d41 : bx.tmps.getD 41 undef = .bool true := hS.dep 10 41 (by kernel_rfl) (by kernel_rfl)
            have gd : bx.tmps.getD 39 undef = .bool true := hS.dep 8 39 (by kernel_rfl) (by kernel_rfl)
            refine .inl ⟨wanted_yes (j := 8) (t := 39) (c := true) (by kernel_rfl) (by kernel_rfl) gd, ends_value' (c := .bool true) ?_⟩
            simp [Act.eval, d40, d41, go_sem]
          | 12, ho =>
            obtain rfl := Option.some.inj ho
            have d39 : bx.tmps.getD 39 undef = .bool true := hS.dep 8 39 (by kernel_rfl) (by kernel_rfl)
            have d42 : bx.tmps.getD 42 undef = .bool true := hS.dep 11 42 (by kernel_rfl) (by kernel_rfl)
            refine .inl ⟨rfl, ends_value' (c := .bool true) ?_⟩
            simp [Act.eval, d39, d42, go_sem]
          | 13, ho =>
            obtain rfl := Option.some.inj ho
            have d43 : bx.tmps.getD 43 undef = .bool true := hS.dep 12 43 (by kernel_rfl) (by kernel_rfl)
            refine .inl ⟨rfl, ends_value' (c := .bool true) ?_⟩
            simp [execOp, Act.eval, d43]
          | 14, ho =>
            obtain rfl := Option.some.inj ho
            have d7 : bx.tmps.getD 7 undef = .bool true := hS.base 7 (by kernel_rfl)
            have gd : bx.tmps.getD 44 undef = .bool true := hS.dep 13 44 (by kernel_rfl) (by kernel_rfl)
            refine .inl ⟨wanted_yes (j := 13) (t := 44) (c := true) (by kernel_rfl) (by kernel_rfl) gd, ends_value' (c := .bool true) ?_⟩
            simp [execOp, Act.eval, d7]
          | 15, ho =>
            obtain rfl := Option.some.inj ho
            have d45 : bx.tmps.getD 45 undef = .bool true := hS.dep 14 45 (by kernel_rfl) (by kernel_rfl)
            have gd : bx.tmps.getD 44 undef = .bool true := hS.dep 13 44 (by kernel_rfl) (by kernel_rfl)
            refine .inl ⟨wanted_yes (j := 13) (t := 44) (c := true) (by kernel_rfl) (by kernel_rfl) gd, ends_value' (c := .bool false) ?_⟩
            simp [Act.eval, d45, go_sem]
          | 16, ho =>
            obtain rfl := Option.some.inj ho
            have d46 : bx.tmps.getD 46 undef = .bool false := hS.dep 15 46 (by kernel_rfl) (by kernel_rfl)
            have gd : bx.tmps.getD 44 undef = .bool true := hS.dep 13 44 (by kernel_rfl) (by kernel_rfl)
            refine .inl ⟨wanted_yes (j := 13) (t := 44) (c := true) (by kernel_rfl) (by kernel_rfl) gd, ends_value' (c := .bool false) ?_⟩
            simp [execOp, Act.eval, d46]
          | 17, ho =>
            obtain rfl := Option.some.inj ho
            have d6 : bx.tmps.getD 6 undef = .string S0 := hS.base 6 (by kernel_rfl)
            have gd : bx.tmps.getD 47 undef = .bool false := hS.dep 16 47 (by kernel_rfl) (by kernel_rfl)
            refine .inl ⟨wanted_yes (j := 16) (t := 47) (c := false) (by kernel_rfl) (by kernel_rfl) gd, ends_value' (c := .string S0) ?_⟩
            simp [execOp, Act.eval, d6]
          | 18, ho =>
            obtain rfl := Option.some.inj ho
            have d48 : bx.tmps.getD 48 undef = .string S0 := hS.dep 17 48 (by kernel_rfl) (by kernel_rfl)
            have gd : bx.tmps.getD 47 undef = .bool false := hS.dep 16 47 (by kernel_rfl) (by kernel_rfl)
            refine .inl ⟨wanted_yes (j := 16) (t := 47) (c := false) (by kernel_rfl) (by kernel_rfl) gd, ends_value' (c := .int .i64 13) ?_⟩
            simp [Act.eval, d48, go_sem, z0]
          | 19, ho =>
            obtain rfl := Option.some.inj ho
            have d49 : bx.tmps.getD 49 undef = .int .i64 13 := hS.dep 18 49 (by kernel_rfl) (by kernel_rfl)
            have gd : bx.tmps.getD 47 undef = .bool false := hS.dep 16 47 (by kernel_rfl) (by kernel_rfl)
            refine .inl ⟨wanted_yes (j := 16) (t := 47) (c := false) (by kernel_rfl) (by kernel_rfl) gd, ends_value' (c := .bool true) ?_⟩
            simp [Act.eval, d49, go_sem]
          | 20, ho =>
            obtain rfl := Option.some.inj ho
            have d50 : bx.tmps.getD 50 undef = .bool true := hS.dep 19 50 (by kernel_rfl) (by kernel_rfl)
            have gd : bx.tmps.getD 47 undef = .bool false := hS.dep 16 47 (by kernel_rfl) (by kernel_rfl)
            refine .inl ⟨wanted_yes (j := 16) (t := 47) (c := false) (by kernel_rfl) (by kernel_rfl) gd, ends_value' (c := .bool true) ?_⟩
            simp [execOp, Act.eval, d50]
          | 21, ho =>
            obtain rfl := Option.some.inj ho
            have d10 : bx.tmps.getD 10 undef = .string SU := hS.base 10 (by kernel_rfl)
            have gd : bx.tmps.getD 51 undef = .bool true := hS.dep 20 51 (by kernel_rfl) (by kernel_rfl)
            refine .inl ⟨wanted_yes (j := 20) (t := 51) (c := true) (by kernel_rfl) (by kernel_rfl) gd, ends_value' (c := .string SU) ?_⟩
            simp [execOp, Act.eval, d10]
          | 22, ho =>
            obtain rfl := Option.some.inj ho
            have d52 : bx.tmps.getD 52 undef = .string SU := hS.dep 21 52 (by kernel_rfl) (by kernel_rfl)
            have gd : bx.tmps.getD 51 undef = .bool true := hS.dep 20 51 (by kernel_rfl) (by kernel_rfl)
            refine .inl ⟨wanted_yes (j := 20) (t := 51) (c := true) (by kernel_rfl) (by kernel_rfl) gd, ends_value' (c := .int .i64 13) ?_⟩
            simp [Act.eval, d52, go_sem, zu]
          | 23, ho =>
            obtain rfl := Option.some.inj ho
            have d53 : bx.tmps.getD 53 undef = .int .i64 13 := hS.dep 22 53 (by kernel_rfl) (by kernel_rfl)
            have gd : bx.tmps.getD 51 undef = .bool true := hS.dep 20 51 (by kernel_rfl) (by kernel_rfl)
            refine .inl ⟨wanted_yes (j := 20) (t := 51) (c := true) (by kernel_rfl) (by kernel_rfl) gd, ends_value' (c := .bool true) ?_⟩
            simp [Act.eval, d53, go_sem]
          | 24, ho =>
            obtain rfl := Option.some.inj ho
            have d51 : bx.tmps.getD 51 undef = .bool true := hS.dep 20 51 (by kernel_rfl) (by kernel_rfl)
            have d54 : bx.tmps.getD 54 undef = .bool true := hS.dep 23 54 (by kernel_rfl) (by kernel_rfl)
            have gd : bx.tmps.getD 47 undef = .bool false := hS.dep 16 47 (by kernel_rfl) (by kernel_rfl)
            refine .inl ⟨wanted_yes (j := 16) (t := 47) (c := false) (by kernel_rfl) (by kernel_rfl) gd, ends_value' (c := .bool true) ?_⟩
            simp [Act.eval, d51, d54, go_sem]
          | 25, ho =>
            obtain rfl := Option.some.inj ho
            have d47 : bx.tmps.getD 47 undef = .bool false := hS.dep 16 47 (by kernel_rfl) (by kernel_rfl)
            have d55 : bx.tmps.getD 55 undef = .bool true := hS.dep 24 55 (by kernel_rfl) (by kernel_rfl)
            have gd : bx.tmps.getD 44 undef = .bool true := hS.dep 13 44 (by kernel_rfl) (by kernel_rfl)
            refine .inl ⟨wanted_yes (j := 13) (t := 44) (c := true) (by kernel_rfl) (by kernel_rfl) gd, ends_value' (c := .bool true) ?_⟩
            simp [Act.eval, d47, d55, go_sem]
          | 26, ho =>
            obtain rfl := Option.some.inj ho
            have d44 : bx.tmps.getD 44 undef = .bool true := hS.dep 13 44 (by kernel_rfl) (by kernel_rfl)
            have d56 : bx.tmps.getD 56 undef = .bool true := hS.dep 25 56 (by kernel_rfl) (by kernel_rfl)
            refine .inl ⟨rfl, ends_value' (c := .bool true) ?_⟩
            simp [Act.eval, d44, d56, go_sem]
          | 27, ho =>
            obtain rfl := Option.some.inj ho
            have d57 : bx.tmps.getD 57 undef = .bool true := hS.dep 26 57 (by kernel_rfl) (by kernel_rfl)
            refine .inl ⟨rfl, ends_value' (c := .bool true) ?_⟩
            simp [execOp, Act.eval, d57]
          | 28, ho =>
            obtain rfl := Option.some.inj ho
            have d7 : bx.tmps.getD 7 undef = .bool true := hS.base 7 (by kernel_rfl)
            have gd : bx.tmps.getD 58 undef = .bool true := hS.dep 27 58 (by kernel_rfl) (by kernel_rfl)
            refine .inl ⟨wanted_yes (j := 27) (t := 58) (c := true) (by kernel_rfl) (by kernel_rfl) gd, ends_value' (c := .bool true) ?_⟩
            simp [execOp, Act.eval, d7]
          | 29, ho =>
            obtain rfl := Option.some.inj ho
            have d59 : bx.tmps.getD 59 undef = .bool true := hS.dep 28 59 (by kernel_rfl) (by kernel_rfl)
            have gd : bx.tmps.getD 58 undef = .bool true := hS.dep 27 58 (by kernel_rfl) (by kernel_rfl)
            refine .inl ⟨wanted_yes (j := 27) (t := 58) (c := true) (by kernel_rfl) (by kernel_rfl) gd, ends_value' (c := .bool false) ?_⟩
            simp [Act.eval, d59, go_sem]
          | 30, ho =>
            obtain rfl := Option.some.inj ho
            have d60 : bx.tmps.getD 60 undef = .bool false := hS.dep 29 60 (by kernel_rfl) (by kernel_rfl)
            have gd : bx.tmps.getD 58 undef = .bool true := hS.dep 27 58 (by kernel_rfl) (by kernel_rfl)
            refine .inl ⟨wanted_yes (j := 27) (t := 58) (c := true) (by kernel_rfl) (by kernel_rfl) gd, ends_value' (c := .bool false) ?_⟩
            simp [execOp, Act.eval, d60]
          | 31, ho =>
            obtain rfl := Option.some.inj ho
            have d9 : bx.tmps.getD 9 undef = .bool true := hS.base 9 (by kernel_rfl)
            have gd : bx.tmps.getD 61 undef = .bool false := hS.dep 30 61 (by kernel_rfl) (by kernel_rfl)
            refine .inl ⟨wanted_yes (j := 30) (t := 61) (c := false) (by kernel_rfl) (by kernel_rfl) gd, ends_value' (c := .bool true) ?_⟩
            simp [execOp, Act.eval, d9]
          | 32, ho =>
            obtain rfl := Option.some.inj ho
            have d62 : bx.tmps.getD 62 undef = .bool true := hS.dep 31 62 (by kernel_rfl) (by kernel_rfl)
            have gd : bx.tmps.getD 61 undef = .bool false := hS.dep 30 61 (by kernel_rfl) (by kernel_rfl)
            refine .inl ⟨wanted_yes (j := 30) (t := 61) (c := false) (by kernel_rfl) (by kernel_rfl) gd, ends_value' (c := .bool false) ?_⟩
            simp [Act.eval, d62, go_sem]
          | 33, ho =>
            obtain rfl := Option.some.inj ho
            have d61 : bx.tmps.getD 61 undef = .bool false := hS.dep 30 61 (by kernel_rfl) (by kernel_rfl)
            have d63 : bx.tmps.getD 63 undef = .bool false := hS.dep 32 63 (by kernel_rfl) (by kernel_rfl)
            have gd : bx.tmps.getD 58 undef = .bool true := hS.dep 27 58 (by kernel_rfl) (by kernel_rfl)
            refine .inl ⟨wanted_yes (j := 27) (t := 58) (c := true) (by kernel_rfl) (by kernel_rfl) gd, ends_value' (c := .bool false) ?_⟩
            simp [Act.eval, d61, d63, go_sem]
          | 34, ho =>
            obtain rfl := Option.some.inj ho
            have d64 : bx.tmps.getD 64 undef = .bool false := hS.dep 33 64 (by kernel_rfl) (by kernel_rfl)
            have gd : bx.tmps.getD 58 undef = .bool true := hS.dep 27 58 (by kernel_rfl) (by kernel_rfl)
            refine .inl ⟨wanted_yes (j := 27) (t := 58) (c := true) (by kernel_rfl) (by kernel_rfl) gd, ends_value' (c := .bool false) ?_⟩
            simp [execOp, Act.eval, d64]
          | 35, ho =>
            obtain rfl := Option.some.inj ho
            have d6 : bx.tmps.getD 6 undef = .string S0 := hS.base 6 (by kernel_rfl)
            have gd : bx.tmps.getD 65 undef = .bool false := hS.dep 34 65 (by kernel_rfl) (by kernel_rfl)
            refine .inl ⟨wanted_yes (j := 34) (t := 65) (c := false) (by kernel_rfl) (by kernel_rfl) gd, ends_value' (c := .string S0) ?_⟩
            simp [execOp, Act.eval, d6]
          | 36, ho =>
            obtain rfl := Option.some.inj ho
            have d8 : bx.tmps.getD 8 undef = .string S1 := hS.base 8 (by kernel_rfl)
            have gd : bx.tmps.getD 65 undef = .bool false := hS.dep 34 65 (by kernel_rfl) (by kernel_rfl)
            refine .inl ⟨wanted_yes (j := 34) (t := 65) (c := false) (by kernel_rfl) (by kernel_rfl) gd, ends_value' (c := .string S1) ?_⟩
            simp [execOp, Act.eval, d8]
          | 37, ho =>
            obtain rfl := Option.some.inj ho
            have d66 : bx.tmps.getD 66 undef = .string S0 := hS.dep 35 66 (by kernel_rfl) (by kernel_rfl)
            have d67 : bx.tmps.getD 67 undef = .string S1 := hS.dep 36 67 (by kernel_rfl) (by kernel_rfl)
            have gd : bx.tmps.getD 65 undef = .bool false := hS.dep 34 65 (by kernel_rfl) (by kernel_rfl)
            refine .inl ⟨wanted_yes (j := 34) (t := 65) (c := false) (by kernel_rfl) (by kernel_rfl) gd, ends_value' (c := .bool false) ?_⟩
            simp [Act.eval, d66, d67, go_sem, hs]
          | 38, ho =>
            obtain rfl := Option.some.inj ho
            have d2 : bx.tmps.getD 2 undef = .pointer (some ⟨w.heap.size, 0, none⟩) := hS.base 2 (by kernel_rfl)
            have gd : bx.tmps.getD 65 undef = .bool false := hS.dep 34 65 (by kernel_rfl) (by kernel_rfl)
            have v0 := (up u hbel).cell 0 _ rfl
            have v1 := (up u hbel).cell 1 _ rfl
            have v2 := (up u hbel).cell 2 _ rfl
            have v3 := (up u hbel).cell 3 _ rfl
            have v4 := (up u hbel).cell 4 _ rfl
            refine .inl ⟨wanted_yes (j := 34) (t := 65) (c := false) (by kernel_rfl) (by kernel_rfl) gd, ends_value' (c := a0.val) ?_⟩
            simp [Act.eval, d2, go_sem, v0, v1, v2, v3, v4]
          | 39, ho =>
            obtain rfl := Option.some.inj ho
            have d3 : bx.tmps.getD 3 undef = .pointer (some ⟨w.heap.size + 1, 0, none⟩) := hS.base 3 (by kernel_rfl)
            have gd : bx.tmps.getD 65 undef = .bool false := hS.dep 34 65 (by kernel_rfl) (by kernel_rfl)
            have v0 := (up1 u hbel).cell 0 _ rfl
            have v1 := (up1 u hbel).cell 1 _ rfl
            have v2 := (up1 u hbel).cell 2 _ rfl
            have v3 := (up1 u hbel).cell 3 _ rfl
            have v4 := (up1 u hbel).cell 4 _ rfl
            refine .inl ⟨wanted_yes (j := 34) (t := 65) (c := false) (by kernel_rfl) (by kernel_rfl) gd, ends_value' (c := a1.val) ?_⟩
            simp [Act.eval, d3, go_sem, v0, v1, v2, v3, v4]
          | 40, ho =>
            obtain rfl := Option.some.inj ho
            have d69 : bx.tmps.getD 69 undef = a0.val := hS.dep 38 69 (by kernel_rfl) (by kernel_rfl)
            have d70 : bx.tmps.getD 70 undef = a1.val := hS.dep 39 70 (by kernel_rfl) (by kernel_rfl)
            have gd : bx.tmps.getD 65 undef = .bool false := hS.dep 34 65 (by kernel_rfl) (by kernel_rfl)
            refine .inl ⟨wanted_yes (j := 34) (t := 65) (c := false) (by kernel_rfl) (by kernel_rfl) gd, ends_value' (c := .bool false) ?_⟩
            simp [Act.eval, d69, d70, go_sem]
            exact hq
          | 41, ho =>
            obtain rfl := Option.some.inj ho
            have d68 : bx.tmps.getD 68 undef = .bool false := hS.dep 37 68 (by kernel_rfl) (by kernel_rfl)
            have d71 : bx.tmps.getD 71 undef = .bool false := hS.dep 40 71 (by kernel_rfl) (by kernel_rfl)
            have gd : bx.tmps.getD 65 undef = .bool false := hS.dep 34 65 (by kernel_rfl) (by kernel_rfl)
            refine .inl ⟨wanted_yes (j := 34) (t := 65) (c := false) (by kernel_rfl) (by kernel_rfl) gd, ends_value' (c := .bool true) ?_⟩
            simp [Act.eval, d68, d71, go_sem]
          | 42, ho =>
            obtain rfl := Option.some.inj ho
            have d65 : bx.tmps.getD 65 undef = .bool false := hS.dep 34 65 (by kernel_rfl) (by kernel_rfl)
            have d72 : bx.tmps.getD 72 undef = .bool true := hS.dep 41 72 (by kernel_rfl) (by kernel_rfl)
            have gd : bx.tmps.getD 58 undef = .bool true := hS.dep 27 58 (by kernel_rfl) (by kernel_rfl)
            refine .inl ⟨wanted_yes (j := 27) (t := 58) (c := true) (by kernel_rfl) (by kernel_rfl) gd, ends_value' (c := .bool true) ?_⟩
            simp [Act.eval, d65, d72, go_sem]
          | 43, ho =>
            obtain rfl := Option.some.inj ho
            have d58 : bx.tmps.getD 58 undef = .bool true := hS.dep 27 58 (by kernel_rfl) (by kernel_rfl)
            have d73 : bx.tmps.getD 73 undef = .bool true := hS.dep 42 73 (by kernel_rfl) (by kernel_rfl)
            refine .inl ⟨rfl, ends_value' (c := .bool true) ?_⟩
            simp [Act.eval, d58, d73, go_sem]
          | 44, ho =>
            obtain rfl := Option.some.inj ho
            have d74 : bx.tmps.getD 74 undef = .bool true := hS.dep 43 74 (by kernel_rfl) (by kernel_rfl)
            refine .inl ⟨rfl, ends_value' (c := .bool true) ?_⟩
            simp [execOp, Act.eval, d74]
          | n + 45, ho => exact absurd ho (by simp)
        case fin =>
          intro u hbel
          simp [putAll, dstAt, Act.put]
          have HB2 := hide (Below.then (unhide HB) (show Below w5.heap.size w5 u from ⟨hbel.os, hbel.tape, hbel.output, hbel.size, hbel.block⟩))
          clear up up1 r5 s5 hbel HR5
          go_wp2_with fail
          go_ret
          exact ⟨rfl, unhide HB2⟩

theorem reads (os : Os) {H : Type} (enc : TypeId × Value → H) : DataW.whole enc Tryd.prog ((World.laidAll Tryd.prog os Rows.packetKeysRow.laid).forCall (fun _ _ => 0) ⟨#[], #[.agg #[.int .i64 0, .int .u32 0, .int .u32 0, .int .i64 0, .int .i64 0], .agg #[.int .i64 0, .int .u32 0, .int .u32 0, .int .i64 0, .int .i64 0]], []⟩).memory Tryd.f4.params.toList Rows.packetBackSpec.vars false (#[.agg #[.int .i64 0, .int .u32 0, .int .u32 0, .int .i64 0, .int .i64 0], .agg #[.int .i64 0, .int .u32 0, .int .u32 0, .int .i64 0, .int .i64 0]] : Array Value).toList 8 = some ([.agg [.lit (.int .i64 0), .lit (.int .u32 0), .lit (.int .u32 0), .lit (.int .i64 0), .lit (.int .i64 0)], .agg [.lit (.int .i64 0), .lit (.int .u32 0), .lit (.int .u32 0), .lit (.int .i64 0), .lit (.int .i64 0)]], [], []) := by kernel_rfl
set_option maxRecDepth 100000 in
theorem lifted (os : Os) (started : os.Started) (H : Type) (enc : TypeId × Value → H) (F : Stop.Interp) :
    ReturnsInHanded {} Tryd.checked os 4 .any ((OpenSpec.ofChange Rows.packetBackSpec).preRow enc Tryd.prog Tryd.f4 Rows.packetBackRow.domain false Rows.packetBackRow.laid) (((OpenSpec.ofChange Rows.packetBackSpec).at F).post enc Tryd.prog Tryd.f4 false true false false) := by
  refine returnsInHanded_of_row (C := Tryd.checked) (s := (OpenSpec.ofChange Rows.packetBackSpec)) own started (by kernel_rfl) Tryd.func4
    (witness_row_at (enc := enc) (C := Tryd.checked) false (World.laidAll Tryd.prog os Rows.packetKeysRow.laid) #[.agg #[.int .i64 0, .int .u32 0, .int .u32 0, .int .i64 0, .int .i64 0], .agg #[.int .i64 0, .int .u32 0, .int .u32 0, .int .i64 0, .int .i64 0]] (World.laidAll_os _ _ _) (by kernel_rfl) (by kernel_rfl) (by kernel_rfl)
      (OpenSpec.preRow_of_cond 8 (reads os enc) (by kernel_rfl) (fun k hk => by cases hk) (by kernel_rfl) (laid_met os _))) ?_
  intro W base args ds gs before hval0 hW _ hcond hsz hL _ _
  have hval : ∀ (j : Nat) t v, Tryd.f4.params[j]? = some t → args[j]? = some v → Value.okWide Tryd.prog W .any base t v := hval0
  have hW' := hW
  obtain ⟨p, q, hA0, hV, rfl, hfz, hnd⟩ := hW
  have hA : DataW.TrodAll enc Tryd.prog W 0 (fun _ => true) true Tryd.f4.params.toList args.toList ds p := hA0
  rw [Tryd.params4] at hA hval
  obtain ⟨v0, vs0, d0, ds0, p0, q0, hargs, rfl, rfl, h0, r0⟩ := trodAll_cons hA
  obtain ⟨v1, vs1, d1, ds1, p1, q1, rfl, rfl, rfl, h1, r1⟩ := trodAll_cons r0
  obtain ⟨rfl, rfl, rfl⟩ := trodAll_nil r1
  obtain rfl : args = #[v0, v1] := by cases args; simp_all
  obtain ⟨rfl, rfl⟩ := trodVars_none hV
  obtain ⟨a0, rfl, rfl, rfl, f0⟩ := open_head (hval 0 24 v0 rfl rfl) h0
  obtain ⟨a1, rfl, rfl, rfl, f1⟩ := open_head (hval 1 24 v1 rfl rfl) h1
  clear hA0 hval0
  simp only [List.append_nil] at hW'
  have w0 : a0.Wf := f0.wf (sized_head hsz (j := 0) rfl rfl)
  have w1 : a1.Wf := f1.wf (sized_head hsz (j := 1) rfl rfl)
  refine (walk W (env_of hL) a0 w0 a1 w1).mono fun e W' ⟨he, bel⟩ => ?_
  subst he
  exact ⟨_, rfl, _, _, _, [], _, [], hW', (trodAll_cons_mk (shut_bool Tryd.underlying4 _) trodAll_mk0), (trodAll_cons_mk (shut_head a0 f0) (trodAll_cons_mk (shut_head a1 f1) trodAll_mk0)), rfl, bel.frame _, fun h => by cases h⟩

theorem over : Rows.packetBackRow.holds Tryd.pinned (OpenSpec.ofChange Rows.packetBackSpec) :=
  OpenClaim.holds_of_cond 4 Tryd.f4 rfl rfl rfl rfl rfl rfl rfl ⟨rfl, rfl, rfl, rfl, rfl⟩ rfl rfl rfl rfl rfl (by kernel_rfl) Tryd.func4 (by kernel_rfl)
    (of_decide_eq_true (by kernel_rfl)) (by unfold Func.isWrapper; first | (rw [if_pos (by decide +kernel)]; kernel_rfl) | (rw [if_neg (by decide +kernel)]; exact ⟨rfl, rfl⟩))
    (fun os started H enc _ F => by rw [OpenClaim.pre_eq_preRow]; exact lifted os started H enc F)

/-- No parameter wants a stand-in; the program's own looks are off. -/
theorem plain (f : FuncId) (fn : Func) (hf : Tryd.pinned.checked.prog.funcNamed Rows.packetBackRow.func = some f) (hfn : Tryd.pinned.checked.prog.funcs[f]? = some fn) :
    false = Tryd.pinned.checked.prog.looks [] ∧ ∀ (j : Nat) t, fn.params[j]? = some t → Tryd.pinned.checked.prog.wantsStandIn t = false := by
  obtain rfl : f = 4 := Option.some.inj ((show Tryd.prog.funcNamed Rows.packetBackRow.func = some 4 by kernel_rfl).symm.trans hf) |>.symm
  obtain rfl : fn = Tryd.f4 := (Option.some.inj (Tryd.func4.symm.trans hfn)).symm
  refine ⟨by kernel_rfl, fun j t ht => ?_⟩
  rw [Tryd.params4] at ht
  have hm : t ∈ [24, 24] := by simpa using Array.mem_of_getElem? ht
  have hall : ([24, 24].all fun u => !Tryd.prog.wantsStandIn u) = true := by kernel_rfl
  exact (show Tryd.prog.wantsStandIn t = false by simpa using List.all_eq_true.1 hall t hm)

theorem proved : Rows.PacketBackCardSaid :=
  Claim7.holds_tied_plain_at .later [] _ _ _ _ over (fun _ h => by cases h) (by kernel_rfl) (fun _ h => by cases h) packetBack_row_tie rfl ⟨rfl, rfl⟩ (by kernel_rfl) rfl plain (by kernel_rfl)
#print axioms proved
end Go.Proofs.YtinllnaekcifjaaDoor.packetBack
