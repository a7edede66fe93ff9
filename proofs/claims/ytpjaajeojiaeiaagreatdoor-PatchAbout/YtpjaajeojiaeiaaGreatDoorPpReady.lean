/- What ready of the reference of chapter 10 answers. -/
import Derived.Test.YtpjaajeojiaeiaaGreatDoorPpB
import Derived.Test.YtpjaajeojiaeiaaGreatDoorPkRefD
namespace Go.Proofs.YtpjaajeojiaeiaaGreatDoor
open Go.ChangeShapes Go.WideShapes Go.ChangeAt Go.RowKit


set_option maxRecDepth 100000 in
set_option maxHeartbeats 8000000 in
theorem ready_err (s : ByteArray) (kind : Int) (t : En) (w : World) (hs : s.size ≤ 140737488360000) (p : Pk) (x : Int) (hp : clsP s = p) (he : clsE s = x) (hx : ¬ x = 0) :
  Calls Tryz.prog 25 #[.string s, .int .i64 kind, t.val] w fun e w' => e = .returned (.tuple #[p.val, .int .i64 x]) ∧ Below w.heap.size w w' := by
 have HC := hide (fun u => rclassify_any s u hs)
 rw [hp, he] at HC
 clear hp he hs
 have t0 : (x != 0) = true := by simpa using hx
 clear hx
 have re := (row_new w t.cells 36).on' (alloc_on' _ (.cells zeroPk.cells.toArray 62))
 have r6 := row_new (w.alloc (.cells t.cells.toArray 36)) zeroPk.cells 62
 have bel := Below.then (alloc_on' w (.cells t.cells.toArray 36)) (alloc_on' _ (.cells zeroPk.cells.toArray 62))
 rw [show (w.alloc (.cells t.cells.toArray 36)).heap.size = w.heap.size + 1 by simp] at r6
 have HR := hide (And.intro re (And.intro r6 bel))
 clear re r6 bel
 go_enter Tryz.func25, Tryz.ntmps25
 go_wp2_with fail
 refine (unhide HC _).mono ?_
 rintro e w1 ⟨rfl, hb⟩
 obtain ⟨re, r6, bel⟩ := unhide HR
 have n1 := alloc_on' w1 (.cells p.cells.toArray 62)
 have r8 := row_new w1 p.cells 62
 replace re := (re.on' hb).on' n1
 replace r6 := (r6.on' hb).on' n1
 replace bel := Below.then bel hb
 have hgw : w.heap.size ≤ w1.heap.size := bel.size
 have hne : w.heap.size + 1 ≠ w1.heap.size := Nat.ne_of_lt (Nat.lt_of_lt_of_le (unhide HR).2.1.lt hb.size)
 replace bel := Below.then bel n1
 obtain ⟨W1, e1⟩ : ∃ V, w1.alloc (.cells p.cells.toArray 62) = V := ⟨_, rfl⟩
 rw [e1] at n1 r8 re r6 bel
 obtain ⟨g, hg⟩ : ∃ g, w1.heap.size = g := ⟨_, rfl⟩
 rw [hg] at r8 hgw hne
 clear HR n1 hb
 have b0 := r8.cell 0 _ rfl
 have b1 := r8.cell 1 _ rfl
 have b2 := r8.cell 2 _ rfl
 have b3 := r8.cell 3 _ rfl
 have b4 := r8.cell 4 _ rfl
 have b5 := r8.cell 5 _ rfl
 have b6 := r8.cell 6 _ rfl
 have b7 := r8.cell 7 _ rfl
 have b8 := r8.cell 8 _ rfl
 have b9 := r8.cell 9 _ rfl
 have b10 := r8.cell 10 _ rfl
 have b11 := r8.cell 11 _ rfl
 have b12 := r8.cell 12 _ rfl
 have b13 := r8.cell 13 _ rfl
 have c0 := r6.cell 0 _ rfl
 have c1 := r6.cell 1 _ rfl
 have c2 := r6.cell 2 _ rfl
 have c3 := r6.cell 3 _ rfl
 have c4 := r6.cell 4 _ rfl
 have c5 := r6.cell 5 _ rfl
 have c6 := r6.cell 6 _ rfl
 have c7 := r6.cell 7 _ rfl
 have c8 := r6.cell 8 _ rfl
 have c9 := r6.cell 9 _ rfl
 have c10 := r6.cell 10 _ rfl
 have c11 := r6.cell 11 _ rfl
 have c12 := r6.cell 12 _ rfl
 have c13 := r6.cell 13 _ rfl
 have fr := r6.free
 have RR := row_all p.cells r6 rfl
 have BB := bel.trans ((setRow_below (w.heap.size + 1) p.cells 0 W1).mono (by omega))
 simp only [setRow, Nat.zero_add, Nat.reduceAdd] at RR BB
 have HF := hide (And.intro RR BB)
 clear RR BB r6 r8 re bel
 go_wp2_with fail
 obtain ⟨RR, BB⟩ := unhide HF
 have z0 := RR.cell 0 _ rfl
 have z1 := RR.cell 1 _ rfl
 have z2 := RR.cell 2 _ rfl
 have z3 := RR.cell 3 _ rfl
 have z4 := RR.cell 4 _ rfl
 have z5 := RR.cell 5 _ rfl
 have z6 := RR.cell 6 _ rfl
 have z7 := RR.cell 7 _ rfl
 have z8 := RR.cell 8 _ rfl
 have z9 := RR.cell 9 _ rfl
 have z10 := RR.cell 10 _ rfl
 have z11 := RR.cell 11 _ rfl
 have z12 := RR.cell 12 _ rfl
 have z13 := RR.cell 13 _ rfl
 refine bodyPost_ret (v := .tuple #[p.val, .int .i64 x]) (by simp [results, Tryz.results25, go_sem, z0, z1, z2, z3, z4, z5, z6, z7, z8, z9, z10, z11, z12, z13]) rfl ⟨ret_pi rfl rfl, BB⟩


set_option maxRecDepth 100000 in
set_option maxHeartbeats 8000000 in
theorem ready_kind (s : ByteArray) (kind : Int) (t : En) (w : World) (hs : s.size ≤ 140737488360000) (p : Pk) (hp : clsP s = p) (he : clsE s = 0) (hk : ¬ p.kind = kind) :
  Calls Tryz.prog 25 #[.string s, .int .i64 kind, t.val] w fun e w' => e = .returned (.tuple #[p.val, .int .i64 1]) ∧ Below w.heap.size w w' := by
 have HC := hide (fun u => rclassify_any s u hs)
 rw [hp, he] at HC
 clear hp he hs
 have t1 : (p.kind != kind) = true := by simpa using hk
 clear hk
 have re := (row_new w t.cells 36).on' (alloc_on' _ (.cells zeroPk.cells.toArray 62))
 have r6 := row_new (w.alloc (.cells t.cells.toArray 36)) zeroPk.cells 62
 have bel := Below.then (alloc_on' w (.cells t.cells.toArray 36)) (alloc_on' _ (.cells zeroPk.cells.toArray 62))
 rw [show (w.alloc (.cells t.cells.toArray 36)).heap.size = w.heap.size + 1 by simp] at r6
 have HR := hide (And.intro re (And.intro r6 bel))
 clear re r6 bel
 go_enter Tryz.func25, Tryz.ntmps25
 go_wp2_with fail
 refine (unhide HC _).mono ?_
 rintro e w1 ⟨rfl, hb⟩
 obtain ⟨re, r6, bel⟩ := unhide HR
 have n1 := alloc_on' w1 (.cells p.cells.toArray 62)
 have r8 := row_new w1 p.cells 62
 replace re := (re.on' hb).on' n1
 replace r6 := (r6.on' hb).on' n1
 replace bel := Below.then bel hb
 have hgw : w.heap.size ≤ w1.heap.size := bel.size
 have hne : w.heap.size + 1 ≠ w1.heap.size := Nat.ne_of_lt (Nat.lt_of_lt_of_le (unhide HR).2.1.lt hb.size)
 replace bel := Below.then bel n1
 obtain ⟨W1, e1⟩ : ∃ V, w1.alloc (.cells p.cells.toArray 62) = V := ⟨_, rfl⟩
 rw [e1] at n1 r8 re r6 bel
 obtain ⟨g, hg⟩ : ∃ g, w1.heap.size = g := ⟨_, rfl⟩
 rw [hg] at r8 hgw hne
 clear HR n1 hb
 have k0 := r8.cell 0 _ rfl
 have b0 := r8.cell 0 _ rfl
 have b1 := r8.cell 1 _ rfl
 have b2 := r8.cell 2 _ rfl
 have b3 := r8.cell 3 _ rfl
 have b4 := r8.cell 4 _ rfl
 have b5 := r8.cell 5 _ rfl
 have b6 := r8.cell 6 _ rfl
 have b7 := r8.cell 7 _ rfl
 have b8 := r8.cell 8 _ rfl
 have b9 := r8.cell 9 _ rfl
 have b10 := r8.cell 10 _ rfl
 have b11 := r8.cell 11 _ rfl
 have b12 := r8.cell 12 _ rfl
 have b13 := r8.cell 13 _ rfl
 have c0 := r6.cell 0 _ rfl
 have c1 := r6.cell 1 _ rfl
 have c2 := r6.cell 2 _ rfl
 have c3 := r6.cell 3 _ rfl
 have c4 := r6.cell 4 _ rfl
 have c5 := r6.cell 5 _ rfl
 have c6 := r6.cell 6 _ rfl
 have c7 := r6.cell 7 _ rfl
 have c8 := r6.cell 8 _ rfl
 have c9 := r6.cell 9 _ rfl
 have c10 := r6.cell 10 _ rfl
 have c11 := r6.cell 11 _ rfl
 have c12 := r6.cell 12 _ rfl
 have c13 := r6.cell 13 _ rfl
 have fr := r6.free
 have RR := row_all p.cells r6 rfl
 have BB := bel.trans ((setRow_below (w.heap.size + 1) p.cells 0 W1).mono (by omega))
 simp only [setRow, Nat.zero_add, Nat.reduceAdd] at RR BB
 have HF := hide (And.intro RR BB)
 clear RR BB r6 r8 re bel
 go_wp2_with fail
 obtain ⟨RR, BB⟩ := unhide HF
 have z0 := RR.cell 0 _ rfl
 have z1 := RR.cell 1 _ rfl
 have z2 := RR.cell 2 _ rfl
 have z3 := RR.cell 3 _ rfl
 have z4 := RR.cell 4 _ rfl
 have z5 := RR.cell 5 _ rfl
 have z6 := RR.cell 6 _ rfl
 have z7 := RR.cell 7 _ rfl
 have z8 := RR.cell 8 _ rfl
 have z9 := RR.cell 9 _ rfl
 have z10 := RR.cell 10 _ rfl
 have z11 := RR.cell 11 _ rfl
 have z12 := RR.cell 12 _ rfl
 have z13 := RR.cell 13 _ rfl
 refine bodyPost_ret (v := .tuple #[p.val, .int .i64 1]) (by simp [results, Tryz.results25, go_sem, z0, z1, z2, z3, z4, z5, z6, z7, z8, z9, z10, z11, z12, z13]) rfl ⟨ret_pi rfl rfl, BB⟩


set_option maxRecDepth 100000 in
set_option maxHeartbeats 8000000 in
theorem ready_s1 (s : ByteArray) (kind : Int) (t : En) (w : World) (hs : s.size ≤ 140737488360000) (p : Pk) (hp : clsP s = p) (he : clsE s = 0) (hk : p.kind = kind) (hs1 : t.sport < 0) :
  Calls Tryz.prog 25 #[.string s, .int .i64 kind, t.val] w fun e w' => e = .returned (.tuple #[p.val, .int .i64 1]) ∧ Below w.heap.size w w' := by
 have HC := hide (fun u => rclassify_any s u hs)
 rw [hp, he] at HC
 clear hp he hs
 have t1 : (p.kind != kind) = false := by simpa using hk
 have HK := hide hk
 clear hk
 have re := (row_new w t.cells 36).on' (alloc_on' _ (.cells zeroPk.cells.toArray 62))
 have r6 := row_new (w.alloc (.cells t.cells.toArray 36)) zeroPk.cells 62
 have bel := Below.then (alloc_on' w (.cells t.cells.toArray 36)) (alloc_on' _ (.cells zeroPk.cells.toArray 62))
 rw [show (w.alloc (.cells t.cells.toArray 36)).heap.size = w.heap.size + 1 by simp] at r6
 have HR := hide (And.intro re (And.intro r6 bel))
 clear re r6 bel
 go_enter Tryz.func25, Tryz.ntmps25
 go_wp2_with fail
 refine (unhide HC _).mono ?_
 rintro e w1 ⟨rfl, hb⟩
 obtain ⟨re, r6, bel⟩ := unhide HR
 have n1 := alloc_on' w1 (.cells p.cells.toArray 62)
 have r8 := row_new w1 p.cells 62
 replace re := (re.on' hb).on' n1
 replace r6 := (r6.on' hb).on' n1
 replace bel := Below.then bel hb
 have hgw : w.heap.size ≤ w1.heap.size := bel.size
 have hne : w.heap.size + 1 ≠ w1.heap.size := Nat.ne_of_lt (Nat.lt_of_lt_of_le (unhide HR).2.1.lt hb.size)
 replace bel := Below.then bel n1
 obtain ⟨W1, e1⟩ : ∃ V, w1.alloc (.cells p.cells.toArray 62) = V := ⟨_, rfl⟩
 rw [e1] at n1 r8 re r6 bel
 obtain ⟨g, hg⟩ : ∃ g, w1.heap.size = g := ⟨_, rfl⟩
 rw [hg] at r8 hgw hne
 clear HR n1 hb
 have k0 := r8.cell 0 _ rfl
 have v2 := re.cell 2 _ rfl
 have v3 := re.cell 3 _ rfl
 have b0 := r8.cell 0 _ rfl
 have b1 := r8.cell 1 _ rfl
 have b2 := r8.cell 2 _ rfl
 have b3 := r8.cell 3 _ rfl
 have b4 := r8.cell 4 _ rfl
 have b5 := r8.cell 5 _ rfl
 have b6 := r8.cell 6 _ rfl
 have b7 := r8.cell 7 _ rfl
 have b8 := r8.cell 8 _ rfl
 have b9 := r8.cell 9 _ rfl
 have b10 := r8.cell 10 _ rfl
 have b11 := r8.cell 11 _ rfl
 have b12 := r8.cell 12 _ rfl
 have b13 := r8.cell 13 _ rfl
 have c0 := r6.cell 0 _ rfl
 have c1 := r6.cell 1 _ rfl
 have c2 := r6.cell 2 _ rfl
 have c3 := r6.cell 3 _ rfl
 have c4 := r6.cell 4 _ rfl
 have c5 := r6.cell 5 _ rfl
 have c6 := r6.cell 6 _ rfl
 have c7 := r6.cell 7 _ rfl
 have c8 := r6.cell 8 _ rfl
 have c9 := r6.cell 9 _ rfl
 have c10 := r6.cell 10 _ rfl
 have c11 := r6.cell 11 _ rfl
 have c12 := r6.cell 12 _ rfl
 have c13 := r6.cell 13 _ rfl
 have fr := r6.free
 have RR := row_all p.cells r6 rfl
 have BB := bel.trans ((setRow_below (w.heap.size + 1) p.cells 0 W1).mono (by omega))
 simp only [setRow, Nat.zero_add, Nat.reduceAdd] at RR BB
 have HF := hide (And.intro RR BB)
 clear RR BB r6 r8 re bel
 go_wp2_with fail
 obtain ⟨RR, BB⟩ := unhide HF
 have z0 := RR.cell 0 _ rfl
 have z1 := RR.cell 1 _ rfl
 have z2 := RR.cell 2 _ rfl
 have z3 := RR.cell 3 _ rfl
 have z4 := RR.cell 4 _ rfl
 have z5 := RR.cell 5 _ rfl
 have z6 := RR.cell 6 _ rfl
 have z7 := RR.cell 7 _ rfl
 have z8 := RR.cell 8 _ rfl
 have z9 := RR.cell 9 _ rfl
 have z10 := RR.cell 10 _ rfl
 have z11 := RR.cell 11 _ rfl
 have z12 := RR.cell 12 _ rfl
 have z13 := RR.cell 13 _ rfl
 refine bodyPost_ret (v := .tuple #[p.val, .int .i64 1]) (by simp [results, Tryz.results25, go_sem, z0, z1, z2, z3, z4, z5, z6, z7, z8, z9, z10, z11, z12, z13]) rfl ⟨ret_pi rfl rfl, BB⟩


set_option maxRecDepth 100000 in
set_option maxHeartbeats 8000000 in
theorem ready_s2 (s : ByteArray) (kind : Int) (t : En) (w : World) (hs : s.size ≤ 140737488360000) (p : Pk) (hp : clsP s = p) (he : clsE s = 0) (hk : p.kind = kind) (hs1 : ¬ t.sport < 0) (hs2 : 65535 < t.sport) :
  Calls Tryz.prog 25 #[.string s, .int .i64 kind, t.val] w fun e w' => e = .returned (.tuple #[p.val, .int .i64 1]) ∧ Below w.heap.size w w' := by
 have HC := hide (fun u => rclassify_any s u hs)
 rw [hp, he] at HC
 clear hp he hs
 have t1 : (p.kind != kind) = false := by simpa using hk
 have HK := hide hk
 clear hk
 have re := (row_new w t.cells 36).on' (alloc_on' _ (.cells zeroPk.cells.toArray 62))
 have r6 := row_new (w.alloc (.cells t.cells.toArray 36)) zeroPk.cells 62
 have bel := Below.then (alloc_on' w (.cells t.cells.toArray 36)) (alloc_on' _ (.cells zeroPk.cells.toArray 62))
 rw [show (w.alloc (.cells t.cells.toArray 36)).heap.size = w.heap.size + 1 by simp] at r6
 have HR := hide (And.intro re (And.intro r6 bel))
 clear re r6 bel
 go_enter Tryz.func25, Tryz.ntmps25
 go_wp2_with fail
 refine (unhide HC _).mono ?_
 rintro e w1 ⟨rfl, hb⟩
 obtain ⟨re, r6, bel⟩ := unhide HR
 have n1 := alloc_on' w1 (.cells p.cells.toArray 62)
 have r8 := row_new w1 p.cells 62
 replace re := (re.on' hb).on' n1
 replace r6 := (r6.on' hb).on' n1
 replace bel := Below.then bel hb
 have hgw : w.heap.size ≤ w1.heap.size := bel.size
 have hne : w.heap.size + 1 ≠ w1.heap.size := Nat.ne_of_lt (Nat.lt_of_lt_of_le (unhide HR).2.1.lt hb.size)
 replace bel := Below.then bel n1
 obtain ⟨W1, e1⟩ : ∃ V, w1.alloc (.cells p.cells.toArray 62) = V := ⟨_, rfl⟩
 rw [e1] at n1 r8 re r6 bel
 obtain ⟨g, hg⟩ : ∃ g, w1.heap.size = g := ⟨_, rfl⟩
 rw [hg] at r8 hgw hne
 clear HR n1 hb
 have k0 := r8.cell 0 _ rfl
 have v2 := re.cell 2 _ rfl
 have v3 := re.cell 3 _ rfl
 have b0 := r8.cell 0 _ rfl
 have b1 := r8.cell 1 _ rfl
 have b2 := r8.cell 2 _ rfl
 have b3 := r8.cell 3 _ rfl
 have b4 := r8.cell 4 _ rfl
 have b5 := r8.cell 5 _ rfl
 have b6 := r8.cell 6 _ rfl
 have b7 := r8.cell 7 _ rfl
 have b8 := r8.cell 8 _ rfl
 have b9 := r8.cell 9 _ rfl
 have b10 := r8.cell 10 _ rfl
 have b11 := r8.cell 11 _ rfl
 have b12 := r8.cell 12 _ rfl
 have b13 := r8.cell 13 _ rfl
 have c0 := r6.cell 0 _ rfl
 have c1 := r6.cell 1 _ rfl
 have c2 := r6.cell 2 _ rfl
 have c3 := r6.cell 3 _ rfl
 have c4 := r6.cell 4 _ rfl
 have c5 := r6.cell 5 _ rfl
 have c6 := r6.cell 6 _ rfl
 have c7 := r6.cell 7 _ rfl
 have c8 := r6.cell 8 _ rfl
 have c9 := r6.cell 9 _ rfl
 have c10 := r6.cell 10 _ rfl
 have c11 := r6.cell 11 _ rfl
 have c12 := r6.cell 12 _ rfl
 have c13 := r6.cell 13 _ rfl
 have fr := r6.free
 have RR := row_all p.cells r6 rfl
 have BB := bel.trans ((setRow_below (w.heap.size + 1) p.cells 0 W1).mono (by omega))
 simp only [setRow, Nat.zero_add, Nat.reduceAdd] at RR BB
 have HF := hide (And.intro RR BB)
 clear RR BB r6 r8 re bel
 go_wp2_with fail
 obtain ⟨RR, BB⟩ := unhide HF
 have z0 := RR.cell 0 _ rfl
 have z1 := RR.cell 1 _ rfl
 have z2 := RR.cell 2 _ rfl
 have z3 := RR.cell 3 _ rfl
 have z4 := RR.cell 4 _ rfl
 have z5 := RR.cell 5 _ rfl
 have z6 := RR.cell 6 _ rfl
 have z7 := RR.cell 7 _ rfl
 have z8 := RR.cell 8 _ rfl
 have z9 := RR.cell 9 _ rfl
 have z10 := RR.cell 10 _ rfl
 have z11 := RR.cell 11 _ rfl
 have z12 := RR.cell 12 _ rfl
 have z13 := RR.cell 13 _ rfl
 refine bodyPost_ret (v := .tuple #[p.val, .int .i64 1]) (by simp [results, Tryz.results25, go_sem, z0, z1, z2, z3, z4, z5, z6, z7, z8, z9, z10, z11, z12, z13]) rfl ⟨ret_pi rfl rfl, BB⟩


set_option maxRecDepth 100000 in
set_option maxHeartbeats 8000000 in
theorem ready_d1 (s : ByteArray) (kind : Int) (t : En) (w : World) (hs : s.size ≤ 140737488360000) (p : Pk) (hp : clsP s = p) (he : clsE s = 0) (hk : p.kind = kind) (hs1 : ¬ t.sport < 0) (hs2 : ¬ 65535 < t.sport) (hd1 : t.dport < 0) :
  Calls Tryz.prog 25 #[.string s, .int .i64 kind, t.val] w fun e w' => e = .returned (.tuple #[p.val, .int .i64 1]) ∧ Below w.heap.size w w' := by
 have HC := hide (fun u => rclassify_any s u hs)
 rw [hp, he] at HC
 clear hp he hs
 have t1 : (p.kind != kind) = false := by simpa using hk
 have HK := hide hk
 clear hk
 have re := (row_new w t.cells 36).on' (alloc_on' _ (.cells zeroPk.cells.toArray 62))
 have r6 := row_new (w.alloc (.cells t.cells.toArray 36)) zeroPk.cells 62
 have bel := Below.then (alloc_on' w (.cells t.cells.toArray 36)) (alloc_on' _ (.cells zeroPk.cells.toArray 62))
 rw [show (w.alloc (.cells t.cells.toArray 36)).heap.size = w.heap.size + 1 by simp] at r6
 have HR := hide (And.intro re (And.intro r6 bel))
 clear re r6 bel
 go_enter Tryz.func25, Tryz.ntmps25
 go_wp2_with fail
 refine (unhide HC _).mono ?_
 rintro e w1 ⟨rfl, hb⟩
 obtain ⟨re, r6, bel⟩ := unhide HR
 have n1 := alloc_on' w1 (.cells p.cells.toArray 62)
 have r8 := row_new w1 p.cells 62
 replace re := (re.on' hb).on' n1
 replace r6 := (r6.on' hb).on' n1
 replace bel := Below.then bel hb
 have hgw : w.heap.size ≤ w1.heap.size := bel.size
 have hne : w.heap.size + 1 ≠ w1.heap.size := Nat.ne_of_lt (Nat.lt_of_lt_of_le (unhide HR).2.1.lt hb.size)
 replace bel := Below.then bel n1
 obtain ⟨W1, e1⟩ : ∃ V, w1.alloc (.cells p.cells.toArray 62) = V := ⟨_, rfl⟩
 rw [e1] at n1 r8 re r6 bel
 obtain ⟨g, hg⟩ : ∃ g, w1.heap.size = g := ⟨_, rfl⟩
 rw [hg] at r8 hgw hne
 clear HR n1 hb
 have k0 := r8.cell 0 _ rfl
 have v2 := re.cell 2 _ rfl
 have v3 := re.cell 3 _ rfl
 have b0 := r8.cell 0 _ rfl
 have b1 := r8.cell 1 _ rfl
 have b2 := r8.cell 2 _ rfl
 have b3 := r8.cell 3 _ rfl
 have b4 := r8.cell 4 _ rfl
 have b5 := r8.cell 5 _ rfl
 have b6 := r8.cell 6 _ rfl
 have b7 := r8.cell 7 _ rfl
 have b8 := r8.cell 8 _ rfl
 have b9 := r8.cell 9 _ rfl
 have b10 := r8.cell 10 _ rfl
 have b11 := r8.cell 11 _ rfl
 have b12 := r8.cell 12 _ rfl
 have b13 := r8.cell 13 _ rfl
 have c0 := r6.cell 0 _ rfl
 have c1 := r6.cell 1 _ rfl
 have c2 := r6.cell 2 _ rfl
 have c3 := r6.cell 3 _ rfl
 have c4 := r6.cell 4 _ rfl
 have c5 := r6.cell 5 _ rfl
 have c6 := r6.cell 6 _ rfl
 have c7 := r6.cell 7 _ rfl
 have c8 := r6.cell 8 _ rfl
 have c9 := r6.cell 9 _ rfl
 have c10 := r6.cell 10 _ rfl
 have c11 := r6.cell 11 _ rfl
 have c12 := r6.cell 12 _ rfl
 have c13 := r6.cell 13 _ rfl
 have fr := r6.free
 have RR := row_all p.cells r6 rfl
 have BB := bel.trans ((setRow_below (w.heap.size + 1) p.cells 0 W1).mono (by omega))
 simp only [setRow, Nat.zero_add, Nat.reduceAdd] at RR BB
 have HF := hide (And.intro RR BB)
 clear RR BB r6 r8 re bel
 go_wp2_with fail
 obtain ⟨RR, BB⟩ := unhide HF
 have z0 := RR.cell 0 _ rfl
 have z1 := RR.cell 1 _ rfl
 have z2 := RR.cell 2 _ rfl
 have z3 := RR.cell 3 _ rfl
 have z4 := RR.cell 4 _ rfl
 have z5 := RR.cell 5 _ rfl
 have z6 := RR.cell 6 _ rfl
 have z7 := RR.cell 7 _ rfl
 have z8 := RR.cell 8 _ rfl
 have z9 := RR.cell 9 _ rfl
 have z10 := RR.cell 10 _ rfl
 have z11 := RR.cell 11 _ rfl
 have z12 := RR.cell 12 _ rfl
 have z13 := RR.cell 13 _ rfl
 refine bodyPost_ret (v := .tuple #[p.val, .int .i64 1]) (by simp [results, Tryz.results25, go_sem, z0, z1, z2, z3, z4, z5, z6, z7, z8, z9, z10, z11, z12, z13]) rfl ⟨ret_pi rfl rfl, BB⟩


set_option maxRecDepth 100000 in
set_option maxHeartbeats 8000000 in
theorem ready_d2 (s : ByteArray) (kind : Int) (t : En) (w : World) (hs : s.size ≤ 140737488360000) (p : Pk) (hp : clsP s = p) (he : clsE s = 0) (hk : p.kind = kind) (hs1 : ¬ t.sport < 0) (hs2 : ¬ 65535 < t.sport) (hd1 : ¬ t.dport < 0) (hd2 : 65535 < t.dport) :
  Calls Tryz.prog 25 #[.string s, .int .i64 kind, t.val] w fun e w' => e = .returned (.tuple #[p.val, .int .i64 1]) ∧ Below w.heap.size w w' := by
 have HC := hide (fun u => rclassify_any s u hs)
 rw [hp, he] at HC
 clear hp he hs
 have t1 : (p.kind != kind) = false := by simpa using hk
 have HK := hide hk
 clear hk
 have re := (row_new w t.cells 36).on' (alloc_on' _ (.cells zeroPk.cells.toArray 62))
 have r6 := row_new (w.alloc (.cells t.cells.toArray 36)) zeroPk.cells 62
 have bel := Below.then (alloc_on' w (.cells t.cells.toArray 36)) (alloc_on' _ (.cells zeroPk.cells.toArray 62))
 rw [show (w.alloc (.cells t.cells.toArray 36)).heap.size = w.heap.size + 1 by simp] at r6
 have HR := hide (And.intro re (And.intro r6 bel))
 clear re r6 bel
 go_enter Tryz.func25, Tryz.ntmps25
 go_wp2_with fail
 refine (unhide HC _).mono ?_
 rintro e w1 ⟨rfl, hb⟩
 obtain ⟨re, r6, bel⟩ := unhide HR
 have n1 := alloc_on' w1 (.cells p.cells.toArray 62)
 have r8 := row_new w1 p.cells 62
 replace re := (re.on' hb).on' n1
 replace r6 := (r6.on' hb).on' n1
 replace bel := Below.then bel hb
 have hgw : w.heap.size ≤ w1.heap.size := bel.size
 have hne : w.heap.size + 1 ≠ w1.heap.size := Nat.ne_of_lt (Nat.lt_of_lt_of_le (unhide HR).2.1.lt hb.size)
 replace bel := Below.then bel n1
 obtain ⟨W1, e1⟩ : ∃ V, w1.alloc (.cells p.cells.toArray 62) = V := ⟨_, rfl⟩
 rw [e1] at n1 r8 re r6 bel
 obtain ⟨g, hg⟩ : ∃ g, w1.heap.size = g := ⟨_, rfl⟩
 rw [hg] at r8 hgw hne
 clear HR n1 hb
 have k0 := r8.cell 0 _ rfl
 have v2 := re.cell 2 _ rfl
 have v3 := re.cell 3 _ rfl
 have b0 := r8.cell 0 _ rfl
 have b1 := r8.cell 1 _ rfl
 have b2 := r8.cell 2 _ rfl
 have b3 := r8.cell 3 _ rfl
 have b4 := r8.cell 4 _ rfl
 have b5 := r8.cell 5 _ rfl
 have b6 := r8.cell 6 _ rfl
 have b7 := r8.cell 7 _ rfl
 have b8 := r8.cell 8 _ rfl
 have b9 := r8.cell 9 _ rfl
 have b10 := r8.cell 10 _ rfl
 have b11 := r8.cell 11 _ rfl
 have b12 := r8.cell 12 _ rfl
 have b13 := r8.cell 13 _ rfl
 have c0 := r6.cell 0 _ rfl
 have c1 := r6.cell 1 _ rfl
 have c2 := r6.cell 2 _ rfl
 have c3 := r6.cell 3 _ rfl
 have c4 := r6.cell 4 _ rfl
 have c5 := r6.cell 5 _ rfl
 have c6 := r6.cell 6 _ rfl
 have c7 := r6.cell 7 _ rfl
 have c8 := r6.cell 8 _ rfl
 have c9 := r6.cell 9 _ rfl
 have c10 := r6.cell 10 _ rfl
 have c11 := r6.cell 11 _ rfl
 have c12 := r6.cell 12 _ rfl
 have c13 := r6.cell 13 _ rfl
 have fr := r6.free
 have RR := row_all p.cells r6 rfl
 have BB := bel.trans ((setRow_below (w.heap.size + 1) p.cells 0 W1).mono (by omega))
 simp only [setRow, Nat.zero_add, Nat.reduceAdd] at RR BB
 have HF := hide (And.intro RR BB)
 clear RR BB r6 r8 re bel
 go_wp2_with fail
 obtain ⟨RR, BB⟩ := unhide HF
 have z0 := RR.cell 0 _ rfl
 have z1 := RR.cell 1 _ rfl
 have z2 := RR.cell 2 _ rfl
 have z3 := RR.cell 3 _ rfl
 have z4 := RR.cell 4 _ rfl
 have z5 := RR.cell 5 _ rfl
 have z6 := RR.cell 6 _ rfl
 have z7 := RR.cell 7 _ rfl
 have z8 := RR.cell 8 _ rfl
 have z9 := RR.cell 9 _ rfl
 have z10 := RR.cell 10 _ rfl
 have z11 := RR.cell 11 _ rfl
 have z12 := RR.cell 12 _ rfl
 have z13 := RR.cell 13 _ rfl
 refine bodyPost_ret (v := .tuple #[p.val, .int .i64 1]) (by simp [results, Tryz.results25, go_sem, z0, z1, z2, z3, z4, z5, z6, z7, z8, z9, z10, z11, z12, z13]) rfl ⟨ret_pi rfl rfl, BB⟩


set_option maxRecDepth 100000 in
set_option maxHeartbeats 8000000 in
theorem ready_ttl (s : ByteArray) (kind : Int) (t : En) (w : World) (hs : s.size ≤ 140737488360000) (p : Pk) (hp : clsP s = p) (he : clsE s = 0) (hk : p.kind = kind) (hs1 : ¬ t.sport < 0) (hs2 : ¬ 65535 < t.sport) (hd1 : ¬ t.dport < 0) (hd2 : ¬ 65535 < t.dport) (ht : p.ttl < 2) :
  Calls Tryz.prog 25 #[.string s, .int .i64 kind, t.val] w fun e w' => e = .returned (.tuple #[p.val, .int .i64 11]) ∧ Below w.heap.size w w' := by
 have HC := hide (fun u => rclassify_any s u hs)
 rw [hp, he] at HC
 clear hp he hs
 have t1 : (p.kind != kind) = false := by simpa using hk
 have HK := hide hk
 clear hk
 have re := (row_new w t.cells 36).on' (alloc_on' _ (.cells zeroPk.cells.toArray 62))
 have r6 := row_new (w.alloc (.cells t.cells.toArray 36)) zeroPk.cells 62
 have bel := Below.then (alloc_on' w (.cells t.cells.toArray 36)) (alloc_on' _ (.cells zeroPk.cells.toArray 62))
 rw [show (w.alloc (.cells t.cells.toArray 36)).heap.size = w.heap.size + 1 by simp] at r6
 have HR := hide (And.intro re (And.intro r6 bel))
 clear re r6 bel
 go_enter Tryz.func25, Tryz.ntmps25
 go_wp2_with fail
 refine (unhide HC _).mono ?_
 rintro e w1 ⟨rfl, hb⟩
 obtain ⟨re, r6, bel⟩ := unhide HR
 have n1 := alloc_on' w1 (.cells p.cells.toArray 62)
 have r8 := row_new w1 p.cells 62
 replace re := (re.on' hb).on' n1
 replace r6 := (r6.on' hb).on' n1
 replace bel := Below.then bel hb
 have hgw : w.heap.size ≤ w1.heap.size := bel.size
 have hne : w.heap.size + 1 ≠ w1.heap.size := Nat.ne_of_lt (Nat.lt_of_lt_of_le (unhide HR).2.1.lt hb.size)
 replace bel := Below.then bel n1
 obtain ⟨W1, e1⟩ : ∃ V, w1.alloc (.cells p.cells.toArray 62) = V := ⟨_, rfl⟩
 rw [e1] at n1 r8 re r6 bel
 obtain ⟨g, hg⟩ : ∃ g, w1.heap.size = g := ⟨_, rfl⟩
 rw [hg] at r8 hgw hne
 clear HR n1 hb
 have k0 := r8.cell 0 _ rfl
 have k9 := r8.cell 9 _ rfl
 have v2 := re.cell 2 _ rfl
 have v3 := re.cell 3 _ rfl
 have b0 := r8.cell 0 _ rfl
 have b1 := r8.cell 1 _ rfl
 have b2 := r8.cell 2 _ rfl
 have b3 := r8.cell 3 _ rfl
 have b4 := r8.cell 4 _ rfl
 have b5 := r8.cell 5 _ rfl
 have b6 := r8.cell 6 _ rfl
 have b7 := r8.cell 7 _ rfl
 have b8 := r8.cell 8 _ rfl
 have b9 := r8.cell 9 _ rfl
 have b10 := r8.cell 10 _ rfl
 have b11 := r8.cell 11 _ rfl
 have b12 := r8.cell 12 _ rfl
 have b13 := r8.cell 13 _ rfl
 have c0 := r6.cell 0 _ rfl
 have c1 := r6.cell 1 _ rfl
 have c2 := r6.cell 2 _ rfl
 have c3 := r6.cell 3 _ rfl
 have c4 := r6.cell 4 _ rfl
 have c5 := r6.cell 5 _ rfl
 have c6 := r6.cell 6 _ rfl
 have c7 := r6.cell 7 _ rfl
 have c8 := r6.cell 8 _ rfl
 have c9 := r6.cell 9 _ rfl
 have c10 := r6.cell 10 _ rfl
 have c11 := r6.cell 11 _ rfl
 have c12 := r6.cell 12 _ rfl
 have c13 := r6.cell 13 _ rfl
 have fr := r6.free
 have RR := row_all p.cells r6 rfl
 have BB := bel.trans ((setRow_below (w.heap.size + 1) p.cells 0 W1).mono (by omega))
 simp only [setRow, Nat.zero_add, Nat.reduceAdd] at RR BB
 have HF := hide (And.intro RR BB)
 clear RR BB r6 r8 re bel
 go_wp2_with fail
 obtain ⟨RR, BB⟩ := unhide HF
 have z0 := RR.cell 0 _ rfl
 have z1 := RR.cell 1 _ rfl
 have z2 := RR.cell 2 _ rfl
 have z3 := RR.cell 3 _ rfl
 have z4 := RR.cell 4 _ rfl
 have z5 := RR.cell 5 _ rfl
 have z6 := RR.cell 6 _ rfl
 have z7 := RR.cell 7 _ rfl
 have z8 := RR.cell 8 _ rfl
 have z9 := RR.cell 9 _ rfl
 have z10 := RR.cell 10 _ rfl
 have z11 := RR.cell 11 _ rfl
 have z12 := RR.cell 12 _ rfl
 have z13 := RR.cell 13 _ rfl
 refine bodyPost_ret (v := .tuple #[p.val, .int .i64 11]) (by simp [results, Tryz.results25, go_sem, z0, z1, z2, z3, z4, z5, z6, z7, z8, z9, z10, z11, z12, z13]) rfl ⟨ret_pi rfl rfl, BB⟩


set_option maxRecDepth 100000 in
set_option maxHeartbeats 8000000 in
theorem ready_ok (s : ByteArray) (kind : Int) (t : En) (w : World) (hs : s.size ≤ 140737488360000) (p : Pk) (hp : clsP s = p) (he : clsE s = 0) (hk : p.kind = kind) (hs1 : ¬ t.sport < 0) (hs2 : ¬ 65535 < t.sport) (hd1 : ¬ t.dport < 0) (hd2 : ¬ 65535 < t.dport) (ht : ¬ p.ttl < 2) :
  Calls Tryz.prog 25 #[.string s, .int .i64 kind, t.val] w fun e w' => e = .returned (.tuple #[p.val, .int .i64 0]) ∧ Below w.heap.size w w' := by
 have HC := hide (fun u => rclassify_any s u hs)
 rw [hp, he] at HC
 clear hp he hs
 have t1 : (p.kind != kind) = false := by simpa using hk
 have HK := hide hk
 clear hk
 have re := (row_new w t.cells 36).on' (alloc_on' _ (.cells zeroPk.cells.toArray 62))
 have r6 := row_new (w.alloc (.cells t.cells.toArray 36)) zeroPk.cells 62
 have bel := Below.then (alloc_on' w (.cells t.cells.toArray 36)) (alloc_on' _ (.cells zeroPk.cells.toArray 62))
 rw [show (w.alloc (.cells t.cells.toArray 36)).heap.size = w.heap.size + 1 by simp] at r6
 have HR := hide (And.intro re (And.intro r6 bel))
 clear re r6 bel
 go_enter Tryz.func25, Tryz.ntmps25
 go_wp2_with fail
 refine (unhide HC _).mono ?_
 rintro e w1 ⟨rfl, hb⟩
 obtain ⟨re, r6, bel⟩ := unhide HR
 have n1 := alloc_on' w1 (.cells p.cells.toArray 62)
 have r8 := row_new w1 p.cells 62
 replace re := (re.on' hb).on' n1
 replace r6 := (r6.on' hb).on' n1
 replace bel := Below.then bel hb
 have hgw : w.heap.size ≤ w1.heap.size := bel.size
 have hne : w.heap.size + 1 ≠ w1.heap.size := Nat.ne_of_lt (Nat.lt_of_lt_of_le (unhide HR).2.1.lt hb.size)
 replace bel := Below.then bel n1
 obtain ⟨W1, e1⟩ : ∃ V, w1.alloc (.cells p.cells.toArray 62) = V := ⟨_, rfl⟩
 rw [e1] at n1 r8 re r6 bel
 obtain ⟨g, hg⟩ : ∃ g, w1.heap.size = g := ⟨_, rfl⟩
 rw [hg] at r8 hgw hne
 clear HR n1 hb
 have k0 := r8.cell 0 _ rfl
 have k9 := r8.cell 9 _ rfl
 have v2 := re.cell 2 _ rfl
 have v3 := re.cell 3 _ rfl
 have b0 := r8.cell 0 _ rfl
 have b1 := r8.cell 1 _ rfl
 have b2 := r8.cell 2 _ rfl
 have b3 := r8.cell 3 _ rfl
 have b4 := r8.cell 4 _ rfl
 have b5 := r8.cell 5 _ rfl
 have b6 := r8.cell 6 _ rfl
 have b7 := r8.cell 7 _ rfl
 have b8 := r8.cell 8 _ rfl
 have b9 := r8.cell 9 _ rfl
 have b10 := r8.cell 10 _ rfl
 have b11 := r8.cell 11 _ rfl
 have b12 := r8.cell 12 _ rfl
 have b13 := r8.cell 13 _ rfl
 have c0 := r6.cell 0 _ rfl
 have c1 := r6.cell 1 _ rfl
 have c2 := r6.cell 2 _ rfl
 have c3 := r6.cell 3 _ rfl
 have c4 := r6.cell 4 _ rfl
 have c5 := r6.cell 5 _ rfl
 have c6 := r6.cell 6 _ rfl
 have c7 := r6.cell 7 _ rfl
 have c8 := r6.cell 8 _ rfl
 have c9 := r6.cell 9 _ rfl
 have c10 := r6.cell 10 _ rfl
 have c11 := r6.cell 11 _ rfl
 have c12 := r6.cell 12 _ rfl
 have c13 := r6.cell 13 _ rfl
 have fr := r6.free
 have RR := row_all p.cells r6 rfl
 have BB := bel.trans ((setRow_below (w.heap.size + 1) p.cells 0 W1).mono (by omega))
 simp only [setRow, Nat.zero_add, Nat.reduceAdd] at RR BB
 have HF := hide (And.intro RR BB)
 clear RR BB r6 r8 re bel
 go_wp2_with fail
 obtain ⟨RR, BB⟩ := unhide HF
 have z0 := RR.cell 0 _ rfl
 have z1 := RR.cell 1 _ rfl
 have z2 := RR.cell 2 _ rfl
 have z3 := RR.cell 3 _ rfl
 have z4 := RR.cell 4 _ rfl
 have z5 := RR.cell 5 _ rfl
 have z6 := RR.cell 6 _ rfl
 have z7 := RR.cell 7 _ rfl
 have z8 := RR.cell 8 _ rfl
 have z9 := RR.cell 9 _ rfl
 have z10 := RR.cell 10 _ rfl
 have z11 := RR.cell 11 _ rfl
 have z12 := RR.cell 12 _ rfl
 have z13 := RR.cell 13 _ rfl
 refine bodyPost_ret (v := .tuple #[p.val, .int .i64 0]) (by simp [results, Tryz.results25, go_sem, z0, z1, z2, z3, z4, z5, z6, z7, z8, z9, z10, z11, z12, z13]) rfl ⟨ret_pi rfl rfl, BB⟩


theorem ready_any (s : ByteArray) (kind : Int) (t : En) (w : World) (hs : s.size ≤ 140737488360000) :
  Calls Tryz.prog 25 #[.string s, .int .i64 kind, t.val] w fun e w' => e = .returned (.tuple #[(clsP s).val, .int .i64 (alwE s kind t)]) ∧ Below w.heap.size w w' := by
 have ts := prtB_iff t.sport
 have td := prtB_iff t.dport
 by_cases hx : clsE s = 0
 case neg => rw [alw_err hx]; exact ready_err s kind t w hs _ _ rfl rfl hx
 by_cases hk : (clsP s).kind = kind
 case neg => rw [alw_kind hx hk]; exact ready_kind s kind t w hs _ rfl hx hk
 by_cases h1 : t.sport < 0
 case pos => rw [alw_sp hx hk (Bool.eq_false_iff.2 fun h => by have := ts.1 h; omega)]; exact ready_s1 s kind t w hs _ rfl hx hk h1
 by_cases h2 : 65535 < t.sport
 case pos => rw [alw_sp hx hk (Bool.eq_false_iff.2 fun h => by have := ts.1 h; omega)]; exact ready_s2 s kind t w hs _ rfl hx hk h1 h2
 have hsp := ts.2 (by omega)
 by_cases h3 : t.dport < 0
 case pos => rw [alw_dp hx hk hsp (Bool.eq_false_iff.2 fun h => by have := td.1 h; omega)]; exact ready_d1 s kind t w hs _ rfl hx hk h1 h2 h3
 by_cases h4 : 65535 < t.dport
 case pos => rw [alw_dp hx hk hsp (Bool.eq_false_iff.2 fun h => by have := td.1 h; omega)]; exact ready_d2 s kind t w hs _ rfl hx hk h1 h2 h3 h4
 have hdp := td.2 (by omega)
 by_cases h5 : (clsP s).ttl < 2
 case pos => rw [alw_ttl hx hk hsp hdp h5]; exact ready_ttl s kind t w hs _ rfl hx hk h1 h2 h3 h4 h5
 rw [alw_ok hx hk hsp hdp h5]; exact ready_ok s kind t w hs _ rfl hx hk h1 h2 h3 h4 h5
end Go.Proofs.YtpjaajeojiaeiaaGreatDoor
