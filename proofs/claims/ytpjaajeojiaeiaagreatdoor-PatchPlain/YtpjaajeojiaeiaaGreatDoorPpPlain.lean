/- What Plain and About of package patch do. -/
import Derived.Test.YtpjaajeojiaeiaaGreatDoorPpAllow
import Derived.Test.YtpjaajeojiaeiaaGreatDoorPpMsg
import Derived.Test.YtpjaajeojiaeiaaGreatDoorPpCls
namespace Go.Proofs.YtpjaajeojiaeiaaGreatDoor
open Go.ChangeShapes Go.WideShapes Go.ChangeAt Go.RowKit

theorem alw_zero {s : ByteArray} {kind : Int} {t : En} (h : alwE s kind t = 0) : clsE s = 0 ∧ (clsP s).kind = kind ∧ (0 ≤ t.sport ∧ t.sport ≤ 65535) ∧ (0 ≤ t.dport ∧ t.dport ≤ 65535) ∧ 2 ≤ (clsP s).ttl := by
  unfold alwE at h
  by_cases h0 : clsE s = 0
  · rw [if_neg (by simpa using h0)] at h
    by_cases h1 : (clsP s).kind = kind
    · rw [if_neg (by simpa using h1)] at h
      by_cases h2 : prtB t.sport = false
      · rw [if_pos h2] at h; exact absurd h (by decide)
      · rw [if_neg h2] at h
        by_cases h3 : prtB t.dport = false
        · rw [if_pos h3] at h; exact absurd h (by decide)
        · rw [if_neg h3] at h
          by_cases h4 : (clsP s).ttl < 2
          · rw [if_pos h4] at h; exact absurd h (by decide)
          · exact ⟨h0, h1, (prtB_iff _).1 (by simpa using h2), (prtB_iff _).1 (by simpa using h3), by omega⟩
    · rw [if_pos h1] at h; exact absurd h (by decide)
  · rw [if_pos h0] at h; exact absurd h h0
/-- The packet with other ends. -/
def plnA (s : ByteArray) (t : En) : ByteArray := outerS (s.extract 0 (clsP s).pos.toNat) ((clsP s).ttl - 1) t.src t.dst
def plnB (s : ByteArray) (t : En) : ByteArray := segT (s.extract (clsP s).pos.toNat (clsP s).total.toNat) (clsP s).tup.proto t
def plainS (s : ByteArray) (t : En) : ByteArray := if alwE s 1 t = 0 then plnA s t ++ plnB s t else ⟨#[]⟩
def abtA (s : ByteArray) (src dst : Int) : ByteArray := outerS (s.extract 0 (clsP s).pos.toNat) ((clsP s).ttl - 1) src dst
def abtB (s : ByteArray) (t : En) : ByteArray := msgT (s.extract (clsP s).pos.toNat (clsP s).total.toNat) (clsP s) t
def aboutS (s : ByteArray) (src dst : Int) (t : En) : ByteArray := if alwE s 2 t = 0 then abtA s src dst ++ abtB s t else ⟨#[]⟩
theorem plainS_no {s : ByteArray} {t : En} (h : ¬ alwE s 1 t = 0) : plainS s t = ⟨#[]⟩ := if_neg h
theorem plainS_yes {s : ByteArray} {t : En} (h : alwE s 1 t = 0) : plainS s t = plnA s t ++ plnB s t := if_pos h
theorem aboutS_no {s : ByteArray} {src dst : Int} {t : En} (h : ¬ alwE s 2 t = 0) : aboutS s src dst t = ⟨#[]⟩ := if_neg h
theorem aboutS_yes {s : ByteArray} {src dst : Int} {t : En} (h : alwE s 2 t = 0) : aboutS s src dst t = abtA s src dst ++ abtB s t := if_pos h
theorem ret_si' {a b : ByteArray} {x y : Int} (h1 : a = b) (h2 : x = y) : Ending.returned (.tuple #[.string a, .int .i64 x]) = .returned (.tuple #[.string b, .int .i64 y]) := by rw [h1, h2]
theorem told_i64 {s : ByteArray} (t : Told s) : Ps.I64 (clsP s).tup.proto := by
  rcases t.kinds with ⟨-, h, -⟩ | ⟨-, h, -⟩ | ⟨-, -, h2, h3, -⟩
  · rw [h]; exact ⟨by decide, by decide⟩
  · rw [h]; exact ⟨by decide, by decide⟩
  · have q := quoted_of h2
    rw [h3]
    rcases q.proto with h | h <;> rw [h] <;> exact ⟨by decide, by decide⟩

theorem buildS_le {h : Ic.Hd} (hw : h.Wf) : (Ic.buildS h).size ≤ 1500 := by
  by_cases he : Ic.buildE h = 0
  · have g := Ic.good_of he hw
    rw [Ic.buildS_of he, Ic.built_size g.1]
    have := g.2
    omega
  · rw [Ic.buildS_no he]
    exact Nat.zero_le _
theorem msgT_le (s : ByteArray) (p : Pk) (t : En) (hs : s.size ≤ 100000000) : (msgT s p t).size ≤ 1500 := buildS_le (msgH_wf s p t hs)


set_option maxRecDepth 100000 in
set_option maxHeartbeats 8000000 in
theorem plain_any (s : ByteArray) (t : En) (w : World) (hs : s.size ≤ 140737488360000) (hT : Ps.U32 t.src ∧ Ps.U32 t.dst) (hE : Ic.Env w) :
    Calls Tryz.prog 13 #[.string s, t.val] w fun e w' => e = .returned (.tuple #[.string (plainS s t), .int .i64 (alwE s 1 t)]) ∧ Below w.heap.size w w' := by
  have HAL := hide (fun u h => allowed_any s 1 t u hs h)
  have re := row_new w t.cells 27
  have bel := alloc_on' w (.cells t.cells.toArray 27)
  have HE := hide hE
  clear hE
  by_cases hx : alwE s 1 t = 0
  case neg =>
    have hR := plainS_no hx
    rw [alwP_no hx] at HAL
    have HX := hide hR
    clear hR hs hT
    generalize plainS s t = R at *
    generalize alwE s 1 t = x at *
    have tx : (x != 0) = true := by simpa using hx
    have HR := hide (And.intro re bel)
    have t0 := re.cell 0 _ rfl
    have t1 := re.cell 1 _ rfl
    have t2 := re.cell 2 _ rfl
    have t3 := re.cell 3 _ rfl
    clear re bel hx
    go_enter Tryz.func13, Tryz.ntmps13
    go_wp2_with fail
    refine (unhide HAL _ ((unhide HE).on (unhide HR).2)).mono ?_
    rintro e w1 ⟨rfl, hb⟩
    have HB := hide (Below.then (Below.then (unhide HR).2 hb) (alloc_on' w1 (.cells zeroPk.cells.toArray 45)))
    clear hb t0 t1 t2 t3
    go_wp2_with fail
    go_ret2
    exact ⟨ret_si' (unhide HX).symm rfl, unhide HB⟩
  obtain ⟨hc, hk, hQ1, hQ2, hl⟩ := alw_zero hx
  have told := told hc
  obtain ⟨p0, p1, p2, p3, p4, p5⟩ := told.at_
  have hR := plainS_yes hx
  rw [alwP_yes hx, hx] at HAL
  rw [hx]
  have z1 : (s.extract 0 (clsP s).pos.toNat).size ≤ 1500 := by rw [ByteArray.size_extract]; omega
  have z2 : (s.extract (clsP s).pos.toNat (clsP s).total.toNat).size ≤ 1500 := by rw [ByteArray.size_extract]; omega
  have HOU := hide (fun u => pouter_any (s.extract 0 (clsP s).pos.toNat) ((clsP s).ttl - 1) t.src t.dst u (by omega) hT.1 hT.2)
  have HSE := hide (fun u => psegment_any (s.extract (clsP s).pos.toNat (clsP s).total.toNat) (clsP s).tup.proto t u (by omega) (told_i64 told) hT)
  have zA : (plnA s t).size ≤ 1500 := by have h := outerS_le (s.extract 0 (clsP s).pos.toNat) ((clsP s).ttl - 1) t.src t.dst; unfold plnA; omega
  have zB : (plnB s t).size ≤ 100000 := by have h := segT_le (s.extract (clsP s).pos.toNat (clsP s).total.toNat) (clsP s).tup.proto t; unfold plnB; omega
  have tad := Ic.add_run (plnA s t) (plnB s t) (by omega) (by omega)
  rw [show outerS (s.extract 0 (clsP s).pos.toNat) ((clsP s).ttl - 1) t.src t.dst = plnA s t from rfl] at HOU
  rw [show segT (s.extract (clsP s).pos.toNat (clsP s).total.toNat) (clsP s).tup.proto t = plnB s t from rfl] at HSE
  have HX := hide hR
  clear hR hs hT hx hc hk hQ1 hQ2 told z1 z2 zA zB
  obtain ⟨H, hH⟩ : ∃ H, s.extract 0 (clsP s).pos.toNat = H := ⟨_, rfl⟩
  obtain ⟨M, hM⟩ : ∃ M, s.extract (clsP s).pos.toNat (clsP s).total.toNat = M := ⟨_, rfl⟩
  rw [hH] at HOU
  rw [hM] at HSE
  generalize plainS s t = R at *
  generalize plnA s t = OA at *
  generalize plnB s t = OB at *
  generalize clsP s = p at *
  have q1 : 0 ≤ p.pos := by omega
  have kt : IntKind.i64.wrap (p.ttl - 1) = p.ttl - 1 := Oct.wraps_i64 _ (by omega) (by omega)
  have q3 : p.pos ≤ s.size := by omega
  have HR := hide (And.intro re bel)
  have t0 := re.cell 0 _ rfl
  have t1 := re.cell 1 _ rfl
  have t2 := re.cell 2 _ rfl
  have t3 := re.cell 3 _ rfl
  clear re bel
  go_enter Tryz.func13, Tryz.ntmps13
  go_wp2_with fail
  refine (unhide HAL _ ((unhide HE).on (unhide HR).2)).mono ?_
  rintro e w1 ⟨rfl, hb⟩
  obtain ⟨re, bel⟩ := unhide HR
  have n1 := alloc_on' w1 (.cells p.cells.toArray 45)
  have r8 := row_new w1 p.cells 45
  replace re := (re.on' hb).on' n1
  replace bel := Below.then (Below.then bel hb) n1
  clear hb n1 t0 t1 t2 t3 HR
  go_wp2_with fail
  generalize w1.alloc (.cells p.cells.toArray 45) = W1 at *
  generalize w1.heap.size = g at *
  refine wp_region_grow (by kernel_rfl) [.string s, .pointer (some ⟨g, 1, none⟩), .int .i64 p.pos, .string H, .pointer (some ⟨g, 9, none⟩), .int .i64 p.ttl, .int .i64 (p.ttl - 1), .pointer (some ⟨w.heap.size, 0, none⟩), .int .u32 t.src, .pointer (some ⟨w.heap.size, 1, none⟩), .int .u32 t.dst, .string OA, .string s, .pointer (some ⟨g, 1, none⟩), .int .i64 p.pos, .pointer (some ⟨g, 2, none⟩), .int .i64 p.total, .string M, .pointer (some ⟨g, 3, none⟩), .pointer (some ⟨g, 3, none⟩), .int .i64 p.tup.proto, t.val, .string OB, .string (OA ++ OB), .string (OA ++ OB), .int .i64 0] (by kernel_rfl) ?op ?fin
  case op =>
    intro i o bx u ho hbel hS
    match i, ho with
    | 0, ho =>
      obtain rfl := Option.some.inj ho
      have d0 : bx.tmps.getD 0 undef = .string s := hS.base 0 (by kernel_rfl)
      refine .inl ⟨rfl, ends_value' (c := .string s) ?_⟩
      simp [execOp, Act.eval, d0]
    | 1, ho =>
      obtain rfl := Option.some.inj ho
      have d6 : bx.tmps.getD 6 undef = .pointer (some ⟨g, 0, none⟩) := hS.base 6 (by kernel_rfl)
      refine .inl ⟨rfl, ends_value' (c := .pointer (some ⟨g, 1, none⟩)) ?_⟩
      simp [Act.eval, d6, go_sem]
    | 2, ho =>
      obtain rfl := Option.some.inj ho
      have d18 : bx.tmps.getD 18 undef = .pointer (some ⟨g, 1, none⟩) := hS.dep 1 18 (by kernel_rfl) (by kernel_rfl)
      have hl := ((r8.on' (pdrew hbel)).cell 1 _ rfl)
      refine .inl ⟨rfl, ends_value' (c := .int .i64 p.pos) ?_⟩
      simp [Act.eval, d18, go_sem, hl]
    | 3, ho =>
      obtain rfl := Option.some.inj ho
      have d17 : bx.tmps.getD 17 undef = .string s := hS.dep 0 17 (by kernel_rfl) (by kernel_rfl)
      have d19 : bx.tmps.getD 19 undef = .int .i64 p.pos := hS.dep 2 19 (by kernel_rfl) (by kernel_rfl)
      refine .inl ⟨rfl, ends_value' (c := .string H) ?_⟩
      simp [Act.eval, d17, d19, go_sem, hH, q1, q3]
    | 4, ho =>
      obtain rfl := Option.some.inj ho
      have d6 : bx.tmps.getD 6 undef = .pointer (some ⟨g, 0, none⟩) := hS.base 6 (by kernel_rfl)
      refine .inl ⟨rfl, ends_value' (c := .pointer (some ⟨g, 9, none⟩)) ?_⟩
      simp [Act.eval, d6, go_sem]
    | 5, ho =>
      obtain rfl := Option.some.inj ho
      have d21 : bx.tmps.getD 21 undef = .pointer (some ⟨g, 9, none⟩) := hS.dep 4 21 (by kernel_rfl) (by kernel_rfl)
      have hl := ((r8.on' (pdrew hbel)).cell 9 _ rfl)
      refine .inl ⟨rfl, ends_value' (c := .int .i64 p.ttl) ?_⟩
      simp [Act.eval, d21, go_sem, hl]
    | 6, ho =>
      obtain rfl := Option.some.inj ho
      have d22 : bx.tmps.getD 22 undef = .int .i64 p.ttl := hS.dep 5 22 (by kernel_rfl) (by kernel_rfl)
      refine .inl ⟨rfl, ends_value' (c := .int .i64 (p.ttl - 1)) ?_⟩
      simp [Act.eval, d22, go_sem, kt]
    | 7, ho =>
      obtain rfl := Option.some.inj ho
      have d3 : bx.tmps.getD 3 undef = .pointer (some ⟨w.heap.size, 0, none⟩) := hS.base 3 (by kernel_rfl)
      refine .inl ⟨rfl, ends_value' (c := .pointer (some ⟨w.heap.size, 0, none⟩)) ?_⟩
      simp [Act.eval, d3, go_sem]
    | 8, ho =>
      obtain rfl := Option.some.inj ho
      have d24 : bx.tmps.getD 24 undef = .pointer (some ⟨w.heap.size, 0, none⟩) := hS.dep 7 24 (by kernel_rfl) (by kernel_rfl)
      have hl := ((re.on' (pdrew hbel)).cell 0 _ rfl)
      refine .inl ⟨rfl, ends_value' (c := .int .u32 t.src) ?_⟩
      simp [Act.eval, d24, go_sem, hl]
    | 9, ho =>
      obtain rfl := Option.some.inj ho
      have d3 : bx.tmps.getD 3 undef = .pointer (some ⟨w.heap.size, 0, none⟩) := hS.base 3 (by kernel_rfl)
      refine .inl ⟨rfl, ends_value' (c := .pointer (some ⟨w.heap.size, 1, none⟩)) ?_⟩
      simp [Act.eval, d3, go_sem]
    | 10, ho =>
      obtain rfl := Option.some.inj ho
      have d26 : bx.tmps.getD 26 undef = .pointer (some ⟨w.heap.size, 1, none⟩) := hS.dep 9 26 (by kernel_rfl) (by kernel_rfl)
      have hl := ((re.on' (pdrew hbel)).cell 1 _ rfl)
      refine .inl ⟨rfl, ends_value' (c := .int .u32 t.dst) ?_⟩
      simp [Act.eval, d26, go_sem, hl]
    | 11, ho =>
      obtain rfl := Option.some.inj ho
      have d20 : bx.tmps.getD 20 undef = .string H := hS.dep 3 20 (by kernel_rfl) (by kernel_rfl)
      have d23 : bx.tmps.getD 23 undef = .int .i64 (p.ttl - 1) := hS.dep 6 23 (by kernel_rfl) (by kernel_rfl)
      have d25 : bx.tmps.getD 25 undef = .int .u32 t.src := hS.dep 8 25 (by kernel_rfl) (by kernel_rfl)
      have d27 : bx.tmps.getD 27 undef = .int .u32 t.dst := hS.dep 10 27 (by kernel_rfl) (by kernel_rfl)
      refine .inl ⟨rfl, ends_call' (c := .string OA) (f := 23) (args := #[.string H, .int .i64 (p.ttl - 1), .int .u32 t.src, .int .u32 t.dst]) ?_ (unhide HOU u)⟩
      simp [Act.eval, d20, d23, d25, d27, go_sem]
    | 12, ho =>
      obtain rfl := Option.some.inj ho
      have d0 : bx.tmps.getD 0 undef = .string s := hS.base 0 (by kernel_rfl)
      refine .inl ⟨rfl, ends_value' (c := .string s) ?_⟩
      simp [execOp, Act.eval, d0]
    | 13, ho =>
      obtain rfl := Option.some.inj ho
      have d6 : bx.tmps.getD 6 undef = .pointer (some ⟨g, 0, none⟩) := hS.base 6 (by kernel_rfl)
      refine .inl ⟨rfl, ends_value' (c := .pointer (some ⟨g, 1, none⟩)) ?_⟩
      simp [Act.eval, d6, go_sem]
    | 14, ho =>
      obtain rfl := Option.some.inj ho
      have d30 : bx.tmps.getD 30 undef = .pointer (some ⟨g, 1, none⟩) := hS.dep 13 30 (by kernel_rfl) (by kernel_rfl)
      have hl := ((r8.on' (pdrew hbel)).cell 1 _ rfl)
      refine .inl ⟨rfl, ends_value' (c := .int .i64 p.pos) ?_⟩
      simp [Act.eval, d30, go_sem, hl]
    | 15, ho =>
      obtain rfl := Option.some.inj ho
      have d6 : bx.tmps.getD 6 undef = .pointer (some ⟨g, 0, none⟩) := hS.base 6 (by kernel_rfl)
      refine .inl ⟨rfl, ends_value' (c := .pointer (some ⟨g, 2, none⟩)) ?_⟩
      simp [Act.eval, d6, go_sem]
    | 16, ho =>
      obtain rfl := Option.some.inj ho
      have d32 : bx.tmps.getD 32 undef = .pointer (some ⟨g, 2, none⟩) := hS.dep 15 32 (by kernel_rfl) (by kernel_rfl)
      have hl := ((r8.on' (pdrew hbel)).cell 2 _ rfl)
      refine .inl ⟨rfl, ends_value' (c := .int .i64 p.total) ?_⟩
      simp [Act.eval, d32, go_sem, hl]
    | 17, ho =>
      obtain rfl := Option.some.inj ho
      have d29 : bx.tmps.getD 29 undef = .string s := hS.dep 12 29 (by kernel_rfl) (by kernel_rfl)
      have d31 : bx.tmps.getD 31 undef = .int .i64 p.pos := hS.dep 14 31 (by kernel_rfl) (by kernel_rfl)
      have d33 : bx.tmps.getD 33 undef = .int .i64 p.total := hS.dep 16 33 (by kernel_rfl) (by kernel_rfl)
      refine .inl ⟨rfl, ends_value' (c := .string M) ?_⟩
      simp [Act.eval, d29, d31, d33, go_sem, hM, q1, p1, p2]
    | 18, ho =>
      obtain rfl := Option.some.inj ho
      have d6 : bx.tmps.getD 6 undef = .pointer (some ⟨g, 0, none⟩) := hS.base 6 (by kernel_rfl)
      refine .inl ⟨rfl, ends_value' (c := .pointer (some ⟨g, 3, none⟩)) ?_⟩
      simp [Act.eval, d6, go_sem]
    | 19, ho =>
      obtain rfl := Option.some.inj ho
      have d35 : bx.tmps.getD 35 undef = .pointer (some ⟨g, 3, none⟩) := hS.dep 18 35 (by kernel_rfl) (by kernel_rfl)
      refine .inl ⟨rfl, ends_value' (c := .pointer (some ⟨g, 3, none⟩)) ?_⟩
      simp [Act.eval, d35, go_sem]
    | 20, ho =>
      obtain rfl := Option.some.inj ho
      have d36 : bx.tmps.getD 36 undef = .pointer (some ⟨g, 3, none⟩) := hS.dep 19 36 (by kernel_rfl) (by kernel_rfl)
      have hl := ((r8.on' (pdrew hbel)).cell 3 _ rfl)
      refine .inl ⟨rfl, ends_value' (c := .int .i64 p.tup.proto) ?_⟩
      simp [Act.eval, d36, go_sem, hl]
    | 21, ho =>
      obtain rfl := Option.some.inj ho
      have d3 : bx.tmps.getD 3 undef = .pointer (some ⟨w.heap.size, 0, none⟩) := hS.base 3 (by kernel_rfl)
      refine .inl ⟨rfl, ends_value' (c := t.val) ?_⟩
      simp [Act.eval, d3, go_sem, ((re.on' (pdrew hbel)).cell 0 _ rfl), ((re.on' (pdrew hbel)).cell 1 _ rfl), ((re.on' (pdrew hbel)).cell 2 _ rfl), ((re.on' (pdrew hbel)).cell 3 _ rfl)]
    | 22, ho =>
      obtain rfl := Option.some.inj ho
      have d34 : bx.tmps.getD 34 undef = .string M := hS.dep 17 34 (by kernel_rfl) (by kernel_rfl)
      have d37 : bx.tmps.getD 37 undef = .int .i64 p.tup.proto := hS.dep 20 37 (by kernel_rfl) (by kernel_rfl)
      have d38 : bx.tmps.getD 38 undef = t.val := hS.dep 21 38 (by kernel_rfl) (by kernel_rfl)
      refine .inl ⟨rfl, ends_call' (c := .string OB) (f := 24) (args := #[.string M, .int .i64 p.tup.proto, t.val]) ?_ (unhide HSE u)⟩
      simp [Act.eval, d34, d37, d38, go_sem]
    | 23, ho =>
      obtain rfl := Option.some.inj ho
      have d28 : bx.tmps.getD 28 undef = .string OA := hS.dep 11 28 (by kernel_rfl) (by kernel_rfl)
      have d39 : bx.tmps.getD 39 undef = .string OB := hS.dep 22 39 (by kernel_rfl) (by kernel_rfl)
      refine .inl ⟨rfl, ends_value' (c := .string (OA ++ OB)) ?_⟩
      simp [Act.eval, d28, d39, go_sem, tad]
    | 24, ho =>
      obtain rfl := Option.some.inj ho
      have d40 : bx.tmps.getD 40 undef = .string (OA ++ OB) := hS.dep 23 40 (by kernel_rfl) (by kernel_rfl)
      refine .inl ⟨rfl, ends_value' (c := .string (OA ++ OB)) ?_⟩
      simp [execOp, Act.eval, d40]
    | 25, ho =>
      obtain rfl := Option.some.inj ho
      refine .inl ⟨rfl, ends_value' (c := .int .i64 0) ?_⟩
      simp [execOp, Act.eval]
    | n + 26, ho => exact absurd ho (by simp)
  case fin =>
    intro u hbel
    simp [putAll, dstAt, Act.put]
    have HB := hide (Below.then bel (pdrew hbel))
    clear hbel re r8 bel
    go_wp2_with fail
    go_ret2
    exact ⟨ret_si' (unhide HX).symm rfl, unhide HB⟩


set_option maxRecDepth 100000 in
set_option maxHeartbeats 8000000 in
theorem about_any (s : ByteArray) (src dst : Int) (t : En) (w : World) (hs : s.size ≤ 140737488360000) (hS : Ps.U32 src) (hD : Ps.U32 dst) (hT : Ps.U32 t.src ∧ Ps.U32 t.dst) (hE : Ic.Env w) :
    Calls Tryz.prog 16 #[.string s, .int .u32 src, .int .u32 dst, t.val] w fun e w' => e = .returned (.tuple #[.string (aboutS s src dst t), .int .i64 (alwE s 2 t)]) ∧ Below w.heap.size w w' := by
  have HAL := hide (fun u h => allowed_any s 2 t u hs h)
  have re := row_new w t.cells 27
  have bel := alloc_on' w (.cells t.cells.toArray 27)
  have HE := hide hE
  clear hE
  by_cases hx : alwE s 2 t = 0
  case neg =>
    have hR := aboutS_no (src := src) (dst := dst) hx
    rw [alwP_no hx] at HAL
    have HX := hide hR
    clear hR hs hT hS hD
    generalize aboutS s src dst t = R at *
    generalize alwE s 2 t = x at *
    have tx : (x != 0) = true := by simpa using hx
    have HR := hide (And.intro re bel)
    have t0 := re.cell 0 _ rfl
    have t1 := re.cell 1 _ rfl
    have t2 := re.cell 2 _ rfl
    have t3 := re.cell 3 _ rfl
    clear re bel hx
    go_enter Tryz.func16, Tryz.ntmps16
    go_wp2_with fail
    refine (unhide HAL _ ((unhide HE).on (unhide HR).2)).mono ?_
    rintro e w1 ⟨rfl, hb⟩
    have HB := hide (Below.then (Below.then (unhide HR).2 hb) (alloc_on' w1 (.cells zeroPk.cells.toArray 45)))
    clear hb t0 t1 t2 t3
    go_wp2_with fail
    go_ret2
    exact ⟨ret_si' (unhide HX).symm rfl, unhide HB⟩
  obtain ⟨hc, hk, hQ1, hQ2, hl⟩ := alw_zero hx
  have told := told hc
  obtain ⟨p0, p1, p2, p3, p4, p5⟩ := told.at_
  have hR := aboutS_yes (src := src) (dst := dst) hx
  rw [alwP_yes hx, hx] at HAL
  rw [hx]
  have z1 : (s.extract 0 (clsP s).pos.toNat).size ≤ 1500 := by rw [ByteArray.size_extract]; omega
  have z2 : (s.extract (clsP s).pos.toNat (clsP s).total.toNat).size ≤ 1500 := by rw [ByteArray.size_extract]; omega
  have HOU := hide (fun u => pouter_any (s.extract 0 (clsP s).pos.toNat) ((clsP s).ttl - 1) src dst u (by omega) hS hD)
  have hbody : s.extract (clsP s).pos.toNat (clsP s).total.toNat = Ip.parseS s := by rw [told.body, told.pos, told.total]
  obtain ⟨a1, a2, a3, a4, a5⟩ := told.about hk
  have a6 := a2.lo
  have a7 := a2.hi
  have b1 : (Ic.parseH (Ip.parseS s)).body.size ≤ 1500 := by have h := parseH_body (Ip.parseS s); rw [hbody] at z2; omega
  have HSE := hide (fun u => pmessage_any (s.extract (clsP s).pos.toNat (clsP s).total.toNat) (clsP s) t u (by omega) (by omega) (by rw [hbody]; omega) ⟨by omega, by omega⟩ ⟨by omega, by omega⟩ (by rw [a3]; exact ⟨a2.src, a2.dst⟩) hT (by rw [a3]; exact ⟨a2.sport, a2.dport⟩) ⟨hQ1, hQ2⟩ (told_i64 told))
  have zA : (abtA s src dst).size ≤ 1500 := by have h := outerS_le (s.extract 0 (clsP s).pos.toNat) ((clsP s).ttl - 1) src dst; unfold abtA; omega
  have zB : (abtB s t).size ≤ 100000 := by have h := msgT_le (s.extract (clsP s).pos.toNat (clsP s).total.toNat) (clsP s) t (by omega); unfold abtB; omega
  have tad := Ic.add_run (abtA s src dst) (abtB s t) (by omega) (by omega)
  rw [show outerS (s.extract 0 (clsP s).pos.toNat) ((clsP s).ttl - 1) src dst = abtA s src dst from rfl] at HOU
  rw [show msgT (s.extract (clsP s).pos.toNat (clsP s).total.toNat) (clsP s) t = abtB s t from rfl] at HSE
  have HX := hide hR
  clear hR hs hT hx hc hk hQ1 hQ2 told z1 z2 zA zB hS hD hbody a1 a2 a3 a4 a5 a6 a7 b1
  obtain ⟨H, hH⟩ : ∃ H, s.extract 0 (clsP s).pos.toNat = H := ⟨_, rfl⟩
  obtain ⟨M, hM⟩ : ∃ M, s.extract (clsP s).pos.toNat (clsP s).total.toNat = M := ⟨_, rfl⟩
  rw [hH] at HOU
  rw [hM] at HSE
  generalize aboutS s src dst t = R at *
  generalize abtA s src dst = OA at *
  generalize abtB s t = OB at *
  generalize clsP s = p at *
  have q1 : 0 ≤ p.pos := by omega
  have kt : IntKind.i64.wrap (p.ttl - 1) = p.ttl - 1 := Oct.wraps_i64 _ (by omega) (by omega)
  have q3 : p.pos ≤ s.size := by omega
  have HR := hide (And.intro re bel)
  have t0 := re.cell 0 _ rfl
  have t1 := re.cell 1 _ rfl
  have t2 := re.cell 2 _ rfl
  have t3 := re.cell 3 _ rfl
  clear re bel
  go_enter Tryz.func16, Tryz.ntmps16
  go_wp2_with fail
  refine (unhide HAL _ ((unhide HE).on (unhide HR).2)).mono ?_
  rintro e w1 ⟨rfl, hb⟩
  obtain ⟨re, bel⟩ := unhide HR
  have n1 := alloc_on' w1 (.cells p.cells.toArray 45)
  have r8 := row_new w1 p.cells 45
  replace re := (re.on' hb).on' n1
  replace bel := Below.then (Below.then bel hb) n1
  clear hb n1 t0 t1 t2 t3 HR
  go_wp2_with fail
  generalize w1.alloc (.cells p.cells.toArray 45) = W1 at *
  generalize w1.heap.size = g at *
  refine wp_region_grow (by kernel_rfl) [.string s, .pointer (some ⟨g, 1, none⟩), .int .i64 p.pos, .string H, .pointer (some ⟨g, 9, none⟩), .int .i64 p.ttl, .int .i64 (p.ttl - 1), .int .u32 src, .int .u32 dst, .string OA, .string s, .pointer (some ⟨g, 1, none⟩), .int .i64 p.pos, .pointer (some ⟨g, 2, none⟩), .int .i64 p.total, .string M, p.val, t.val, .string OB, .string (OA ++ OB), .string (OA ++ OB), .int .i64 0] (by kernel_rfl) ?op ?fin
  case op =>
    intro i o bx u ho hbel hS
    match i, ho with
    | 0, ho =>
      obtain rfl := Option.some.inj ho
      have d0 : bx.tmps.getD 0 undef = .string s := hS.base 0 (by kernel_rfl)
      refine .inl ⟨rfl, ends_value' (c := .string s) ?_⟩
      simp [execOp, Act.eval, d0]
    | 1, ho =>
      obtain rfl := Option.some.inj ho
      have d10 : bx.tmps.getD 10 undef = .pointer (some ⟨g, 0, none⟩) := hS.base 10 (by kernel_rfl)
      refine .inl ⟨rfl, ends_value' (c := .pointer (some ⟨g, 1, none⟩)) ?_⟩
      simp [Act.eval, d10, go_sem]
    | 2, ho =>
      obtain rfl := Option.some.inj ho
      have d22 : bx.tmps.getD 22 undef = .pointer (some ⟨g, 1, none⟩) := hS.dep 1 22 (by kernel_rfl) (by kernel_rfl)
      have hl := ((r8.on' (pdrew hbel)).cell 1 _ rfl)
      refine .inl ⟨rfl, ends_value' (c := .int .i64 p.pos) ?_⟩
      simp [Act.eval, d22, go_sem, hl]
    | 3, ho =>
      obtain rfl := Option.some.inj ho
      have d21 : bx.tmps.getD 21 undef = .string s := hS.dep 0 21 (by kernel_rfl) (by kernel_rfl)
      have d23 : bx.tmps.getD 23 undef = .int .i64 p.pos := hS.dep 2 23 (by kernel_rfl) (by kernel_rfl)
      refine .inl ⟨rfl, ends_value' (c := .string H) ?_⟩
      simp [Act.eval, d21, d23, go_sem, hH, q1, q3]
    | 4, ho =>
      obtain rfl := Option.some.inj ho
      have d10 : bx.tmps.getD 10 undef = .pointer (some ⟨g, 0, none⟩) := hS.base 10 (by kernel_rfl)
      refine .inl ⟨rfl, ends_value' (c := .pointer (some ⟨g, 9, none⟩)) ?_⟩
      simp [Act.eval, d10, go_sem]
    | 5, ho =>
      obtain rfl := Option.some.inj ho
      have d25 : bx.tmps.getD 25 undef = .pointer (some ⟨g, 9, none⟩) := hS.dep 4 25 (by kernel_rfl) (by kernel_rfl)
      have hl := ((r8.on' (pdrew hbel)).cell 9 _ rfl)
      refine .inl ⟨rfl, ends_value' (c := .int .i64 p.ttl) ?_⟩
      simp [Act.eval, d25, go_sem, hl]
    | 6, ho =>
      obtain rfl := Option.some.inj ho
      have d26 : bx.tmps.getD 26 undef = .int .i64 p.ttl := hS.dep 5 26 (by kernel_rfl) (by kernel_rfl)
      refine .inl ⟨rfl, ends_value' (c := .int .i64 (p.ttl - 1)) ?_⟩
      simp [Act.eval, d26, go_sem, kt]
    | 7, ho =>
      obtain rfl := Option.some.inj ho
      have d1 : bx.tmps.getD 1 undef = .int .u32 src := hS.base 1 (by kernel_rfl)
      refine .inl ⟨rfl, ends_value' (c := .int .u32 src) ?_⟩
      simp [execOp, Act.eval, d1]
    | 8, ho =>
      obtain rfl := Option.some.inj ho
      have d2 : bx.tmps.getD 2 undef = .int .u32 dst := hS.base 2 (by kernel_rfl)
      refine .inl ⟨rfl, ends_value' (c := .int .u32 dst) ?_⟩
      simp [execOp, Act.eval, d2]
    | 9, ho =>
      obtain rfl := Option.some.inj ho
      have d24 : bx.tmps.getD 24 undef = .string H := hS.dep 3 24 (by kernel_rfl) (by kernel_rfl)
      have d27 : bx.tmps.getD 27 undef = .int .i64 (p.ttl - 1) := hS.dep 6 27 (by kernel_rfl) (by kernel_rfl)
      have d28 : bx.tmps.getD 28 undef = .int .u32 src := hS.dep 7 28 (by kernel_rfl) (by kernel_rfl)
      have d29 : bx.tmps.getD 29 undef = .int .u32 dst := hS.dep 8 29 (by kernel_rfl) (by kernel_rfl)
      refine .inl ⟨rfl, ends_call' (c := .string OA) (f := 23) (args := #[.string H, .int .i64 (p.ttl - 1), .int .u32 src, .int .u32 dst]) ?_ (unhide HOU u)⟩
      simp [Act.eval, d24, d27, d28, d29, go_sem]
    | 10, ho =>
      obtain rfl := Option.some.inj ho
      have d0 : bx.tmps.getD 0 undef = .string s := hS.base 0 (by kernel_rfl)
      refine .inl ⟨rfl, ends_value' (c := .string s) ?_⟩
      simp [execOp, Act.eval, d0]
    | 11, ho =>
      obtain rfl := Option.some.inj ho
      have d10 : bx.tmps.getD 10 undef = .pointer (some ⟨g, 0, none⟩) := hS.base 10 (by kernel_rfl)
      refine .inl ⟨rfl, ends_value' (c := .pointer (some ⟨g, 1, none⟩)) ?_⟩
      simp [Act.eval, d10, go_sem]
    | 12, ho =>
      obtain rfl := Option.some.inj ho
      have d32 : bx.tmps.getD 32 undef = .pointer (some ⟨g, 1, none⟩) := hS.dep 11 32 (by kernel_rfl) (by kernel_rfl)
      have hl := ((r8.on' (pdrew hbel)).cell 1 _ rfl)
      refine .inl ⟨rfl, ends_value' (c := .int .i64 p.pos) ?_⟩
      simp [Act.eval, d32, go_sem, hl]
    | 13, ho =>
      obtain rfl := Option.some.inj ho
      have d10 : bx.tmps.getD 10 undef = .pointer (some ⟨g, 0, none⟩) := hS.base 10 (by kernel_rfl)
      refine .inl ⟨rfl, ends_value' (c := .pointer (some ⟨g, 2, none⟩)) ?_⟩
      simp [Act.eval, d10, go_sem]
    | 14, ho =>
      obtain rfl := Option.some.inj ho
      have d34 : bx.tmps.getD 34 undef = .pointer (some ⟨g, 2, none⟩) := hS.dep 13 34 (by kernel_rfl) (by kernel_rfl)
      have hl := ((r8.on' (pdrew hbel)).cell 2 _ rfl)
      refine .inl ⟨rfl, ends_value' (c := .int .i64 p.total) ?_⟩
      simp [Act.eval, d34, go_sem, hl]
    | 15, ho =>
      obtain rfl := Option.some.inj ho
      have d31 : bx.tmps.getD 31 undef = .string s := hS.dep 10 31 (by kernel_rfl) (by kernel_rfl)
      have d33 : bx.tmps.getD 33 undef = .int .i64 p.pos := hS.dep 12 33 (by kernel_rfl) (by kernel_rfl)
      have d35 : bx.tmps.getD 35 undef = .int .i64 p.total := hS.dep 14 35 (by kernel_rfl) (by kernel_rfl)
      refine .inl ⟨rfl, ends_value' (c := .string M) ?_⟩
      simp [Act.eval, d31, d33, d35, go_sem, hM, q1, p1, p2]
    | 16, ho =>
      obtain rfl := Option.some.inj ho
      have d10 : bx.tmps.getD 10 undef = .pointer (some ⟨g, 0, none⟩) := hS.base 10 (by kernel_rfl)
      refine .inl ⟨rfl, ends_value' (c := p.val) ?_⟩
      simp [Act.eval, d10, go_sem, ((r8.on' (pdrew hbel)).cell 0 _ rfl), ((r8.on' (pdrew hbel)).cell 1 _ rfl), ((r8.on' (pdrew hbel)).cell 2 _ rfl), ((r8.on' (pdrew hbel)).cell 3 _ rfl), ((r8.on' (pdrew hbel)).cell 4 _ rfl), ((r8.on' (pdrew hbel)).cell 5 _ rfl), ((r8.on' (pdrew hbel)).cell 6 _ rfl), ((r8.on' (pdrew hbel)).cell 7 _ rfl), ((r8.on' (pdrew hbel)).cell 8 _ rfl), ((r8.on' (pdrew hbel)).cell 9 _ rfl), ((r8.on' (pdrew hbel)).cell 10 _ rfl), ((r8.on' (pdrew hbel)).cell 11 _ rfl), ((r8.on' (pdrew hbel)).cell 12 _ rfl), ((r8.on' (pdrew hbel)).cell 13 _ rfl)]
    | 17, ho =>
      obtain rfl := Option.some.inj ho
      have d7 : bx.tmps.getD 7 undef = .pointer (some ⟨w.heap.size, 0, none⟩) := hS.base 7 (by kernel_rfl)
      refine .inl ⟨rfl, ends_value' (c := t.val) ?_⟩
      simp [Act.eval, d7, go_sem, ((re.on' (pdrew hbel)).cell 0 _ rfl), ((re.on' (pdrew hbel)).cell 1 _ rfl), ((re.on' (pdrew hbel)).cell 2 _ rfl), ((re.on' (pdrew hbel)).cell 3 _ rfl)]
    | 18, ho =>
      obtain rfl := Option.some.inj ho
      have d36 : bx.tmps.getD 36 undef = .string M := hS.dep 15 36 (by kernel_rfl) (by kernel_rfl)
      have d37 : bx.tmps.getD 37 undef = p.val := hS.dep 16 37 (by kernel_rfl) (by kernel_rfl)
      have d38 : bx.tmps.getD 38 undef = t.val := hS.dep 17 38 (by kernel_rfl) (by kernel_rfl)
      refine .inl ⟨rfl, ends_call' (c := .string OB) (f := 30) (args := #[.string M, p.val, t.val]) ?_ (unhide HSE u)⟩
      simp [Act.eval, d36, d37, d38, go_sem]
    | 19, ho =>
      obtain rfl := Option.some.inj ho
      have d30 : bx.tmps.getD 30 undef = .string OA := hS.dep 9 30 (by kernel_rfl) (by kernel_rfl)
      have d39 : bx.tmps.getD 39 undef = .string OB := hS.dep 18 39 (by kernel_rfl) (by kernel_rfl)
      refine .inl ⟨rfl, ends_value' (c := .string (OA ++ OB)) ?_⟩
      simp [Act.eval, d30, d39, go_sem, tad]
    | 20, ho =>
      obtain rfl := Option.some.inj ho
      have d40 : bx.tmps.getD 40 undef = .string (OA ++ OB) := hS.dep 19 40 (by kernel_rfl) (by kernel_rfl)
      refine .inl ⟨rfl, ends_value' (c := .string (OA ++ OB)) ?_⟩
      simp [execOp, Act.eval, d40]
    | 21, ho =>
      obtain rfl := Option.some.inj ho
      refine .inl ⟨rfl, ends_value' (c := .int .i64 0) ?_⟩
      simp [execOp, Act.eval]
    | n + 22, ho => exact absurd ho (by simp)
  case fin =>
    intro u hbel
    simp [putAll, dstAt, Act.put]
    have HB := hide (Below.then bel (pdrew hbel))
    clear hbel re r8 bel
    go_wp2_with fail
    go_ret2
    exact ⟨ret_si' (unhide HX).symm rfl, unhide HB⟩

end Go.Proofs.YtpjaajeojiaeiaaGreatDoor
