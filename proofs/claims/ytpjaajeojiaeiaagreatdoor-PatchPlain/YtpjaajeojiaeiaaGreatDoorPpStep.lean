/- The closures by which patch goes on with a check: what each step does, whatever it is made of. -/
import Derived.Test.YtpjaajeojiaeiaaGreatDoorPpWith
import Derived.Test.YtpjaajeojiaeiaaGreatDoorPkFirst
import Derived.Test.YtpjaajeojiaeiaaGreatDoorIcA
import Derived.Laws.EntriesVeiled
namespace Go.Proofs.YtpjaajeojiaeiaaGreatDoor
open Go.ChangeShapes Go.WideShapes Go.ChangeAt Go.RowKit

/-- The function k over what C captured goes on with a check by φ, in W and in each world above it. -/
structure Step (W : World) (k : FuncId) (C : Array Value) (φ : Int → Int) : Prop where
  ent : ∀ args W, (callFunc k args).run Tryz.prog W = .ok (.enter k args) W
  rng : ∀ c, 0 ≤ c → c ≤ 65535 → 0 ≤ φ c ∧ φ c ≤ 65535
  call : ∀ W', Below W.heap.size W W' → ∀ c, 0 ≤ c → c ≤ 65535 → Calls Tryz.prog k (#[.int .u16 c] ++ C) W' fun e w' => e = .returned (.int .u16 (φ c)) ∧ Below W'.heap.size W' w'
theorem Step.on {W W' : World} {k : FuncId} {C : Array Value} {φ : Int → Int} (h : Step W k C φ) (hb : Below W.heap.size W W') : Step W' k C φ := ⟨h.ent, h.rng, fun V hv => h.call V (Below.then hb hv)⟩
theorem ret_u16 {a b : Int} (h : a = b) : Ending.returned (.int .u16 a) = .returned (.int .u16 b) := by rw [h]
def IsStep (u : World) (v : Value) (φ : Int → Int) : Prop := ∃ k C, v = .func (.func k) #[] C ∧ Step u k C φ
theorem IsStep.on {W W' : World} {v : Value} {φ : Int → Int} (h : IsStep W v φ) (hb : Below W.heap.size W W') : IsStep W' v φ := by
  obtain ⟨k, C, e, s⟩ := h
  exact ⟨k, C, e, s.on hb⟩
def Steps (u : World) (g n : Nat) (φ : Nat → Int → Int) : Prop := ∀ i, i < n → ∃ v, u.cell? ⟨g, i, none⟩ = some v ∧ IsStep u v (φ i)
theorem Steps.on {W W' : World} {g n : Nat} {φ : Nat → Int → Int} (h : Steps W g n φ) (hb : Below W.heap.size W W') : Steps W' g n φ := fun i hi => by
  obtain ⟨v, hc, hs⟩ := h i hi
  exact ⟨v, (hb.cell (block_lt_of_cell hc)).trans hc, hs.on hb⟩
/-- One step behind the other. -/
def runN (φ : Nat → Int → Int) : Nat → Int → Int
  | 0, c => c
  | k + 1, c => φ k (runN φ k c)
theorem runN_rng {u : World} {g n : Nat} {φ : Nat → Int → Int} (h : Steps u g n φ) {c : Int} (h0 : 0 ≤ c) (h1 : c ≤ 65535) : ∀ k, k ≤ n → 0 ≤ runN φ k c ∧ runN φ k c ≤ 65535
  | 0, _ => ⟨h0, h1⟩
  | k + 1, hk => by
    have ih := runN_rng h h0 h1 k (by omega)
    obtain ⟨v, -, kk, C, -, s⟩ := h k (by omega)
    exact s.rng _ ih.1 ih.2

set_option maxHeartbeats 1000000 in
set_option maxRecDepth 100000 in
theorem chain1_any (b g n : Nat) (φ : Nat → Int → Int) (c : Int) (W : World) (hn : n ≤ 100) (h0 : 0 ≤ c) (h1 : c ≤ 65535) (hr : Row W b [.slice (some ⟨g, 0, none⟩) n n]) (hs : Steps W g n φ) :
    Calls Tryz.prog 130 #[.int .u16 c, .pointer (some ⟨b, 0, none⟩)] W fun e w' => e = .returned (.int .u16 (runN φ n c)) ∧ Below W.heap.size W w' := by
  have HS := hide hs
  have HN := hide (fun k hk => runN_rng hs h0 h1 k hk)
  have cb := hr.cell 0 _ rfl
  clear hs hr h0 h1
  go_enter Tryz.func130, Tryz.ntmps130
  go_wp2
  clear cb
  go_loopw [0, 8] (fun t i V => ∃ k : Nat, k ≤ n ∧ i = .int .i64 k ∧ t = .int .u16 (runN φ k c) ∧ Hid (Below W.heap.size W V)) (fun _ i _ => n - (intOf i).toNat)
  case atStart => exact ⟨0, Nat.zero_le _, rfl, rfl, Below.refl _ _⟩
  case round =>
    obtain ⟨k, hk, rfl, rfl, hq⟩ := hrel
    by_cases hkn : k < n
    · obtain ⟨v, hc, kk, C, rfl, hst⟩ := (unhide HS).on (unhide hq) k hkn
      obtain ⟨x0, x1⟩ := unhide HN k hk
      have he := hst.ent
      have HE : Hid (φ k (runN φ k c) = runN φ (k + 1) c) := rfl
      have HC := hide (hst.call _ (Below.refl _ _) _ x0 x1)
      rw [HE.out] at HC
      clear hst
      generalize hx : runN φ k c = x at *
      generalize hy : runN φ (k + 1) c = y at *
      have HY := hide hy
      clear hy hx
      go_wp2_with fail
      refine (unhide HC).mono ?_
      rintro e w1 ⟨rfl, hb⟩
      have HB := hide (Below.then (unhide hq) hb)
      clear hb hq hc
      go_wp2_with fail
      go_roundw
      case rel => exact ⟨k + 1, by omega, by go_num, by rw [unhide HY], HB⟩
      case measure => simp [intOf]; omega
    · have hk2 : k = n := by omega
      subst hk2
      go_wp2_with fail
      go_ret
      exact ⟨rfl, unhide hq⟩

set_option maxHeartbeats 1000000 in
set_option maxRecDepth 100000 in
theorem chain_any (g n : Nat) (φ : Nat → Int → Int) (w : World) (hn : n ≤ 100) (hs : Steps w g n φ) :
    Calls Tryz.prog 94 #[.slice (some ⟨g, 0, none⟩) n n] w fun e w' => ∃ v, e = .returned v ∧ IsStep w' v (runN φ n) ∧ Below w.heap.size w w' := by
  have b0 := alloc_on' w (.cells #[.slice (some ⟨g, 0, none⟩) n n] 169)
  have r0 := row_new w [.slice (some ⟨g, 0, none⟩) n n] 169
  have hI : Hid (IsStep (w.alloc (.cells #[.slice (some ⟨g, 0, none⟩) n n] 169)) (.func (.func 130) #[] #[.pointer (some ⟨w.heap.size, 0, none⟩)]) (runN φ n)) := by
    refine ⟨_, _, rfl, Tryz.call130, fun c h0 h1 => runN_rng hs h0 h1 n (Nat.le_refl _), fun W' hb c h0 h1 => ?_⟩
    exact chain1_any w.heap.size g n φ c W' hn h0 h1 (r0.on' hb) ((hs.on b0).on hb)
  have HB := hide b0
  clear b0 r0 hs
  go_enter Tryz.func94, Tryz.ntmps94
  go_wp2
  go_ret
  exact ⟨_, rfl, unhide hI, unhide HB⟩

theorem u32_div {x : Int} (h : Ps.U32 x) : 0 ≤ x ∧ x ≤ 4294967295 := h
/-- The step from an address to another one, and from a port to another one. -/
def adrF (o n : Int) (c : Int) : Int := Ck.upd (Ck.upd c (o / 65536) (n / 65536)) (o % 65536) (n % 65536)
def prtF (o n : Int) (c : Int) : Int := Ck.upd c o n
theorem adrF_rng (o n c : Int) : 0 ≤ adrF o n c ∧ adrF o n c ≤ 65535 := ⟨Ck.upd_lo _ _ _, Ck.upd_hi _ _ _⟩
theorem prtF_rng (o n c : Int) : 0 ≤ prtF o n c ∧ prtF o n c ≤ 65535 := ⟨Ck.upd_lo _ _ _, Ck.upd_hi _ _ _⟩

set_option maxHeartbeats 1000000 in
theorem address1_any (b1 b2 : Nat) (o n c : Int) (W : World) (hO : Ps.U32 o) (hN : Ps.U32 n) (h0 : 0 ≤ c) (h1 : c ≤ 65535) (r1 : Row W b1 [.int .u32 o]) (r2 : Row W b2 [.int .u32 n]) :
    Calls Tryz.prog 131 #[.int .u16 c, .pointer (some ⟨b1, 0, none⟩), .pointer (some ⟨b2, 0, none⟩)] W fun e w' => e = .returned (.int .u16 (adrF o n c)) ∧ Below W.heap.size W w' := by
  have HU := hide (fun u => update32_any c o n u h0 h1 hO.1 hO.2 hN.1 hN.2)
  have c1 := r1.cell 0 _ rfl
  have c2 := r2.cell 0 _ rfl
  clear r1 r2
  have HE : Hid (Ck.upd (Ck.upd c (o / 65536) (n / 65536)) (o % 65536) (n % 65536) = adrF o n c) := rfl
  rw [HE.out] at HU
  generalize adrF o n c = X at *
  clear HE h0 h1 hO hN
  go_enter Tryz.func131, Tryz.ntmps131
  go_wp2_with fail
  refine (unhide HU _).mono ?_
  rintro e w1 ⟨rfl, hb⟩
  have HB := hide hb
  clear hb
  go_wp2_with fail
  go_ret
  exact ⟨rfl, unhide HB⟩

set_option maxHeartbeats 1000000 in
set_option maxRecDepth 100000 in
theorem address_any (o n : Int) (w : World) (hO : Ps.U32 o) (hN : Ps.U32 n) :
    Calls Tryz.prog 95 #[.int .u32 o, .int .u32 n] w fun e w' => ∃ v, e = .returned v ∧ IsStep w' v (adrF o n) ∧ Below w.heap.size w w' := by
  have b0 := alloc_on' w (.cells #[.int .u32 o] 22)
  have b1 := alloc_on' (w.alloc (.cells #[.int .u32 o] 22)) (.cells #[.int .u32 n] 22)
  have r0 := (row_new w [.int .u32 o] 22).on' b1
  have r1 := row_new (w.alloc (.cells #[.int .u32 o] 22)) [.int .u32 n] 22
  have hz : (w.alloc (.cells #[.int .u32 o] 22)).heap.size = w.heap.size + 1 := by simp
  rw [hz] at r1
  have hI : Hid (IsStep ((w.alloc (.cells #[.int .u32 o] 22)).alloc (.cells #[.int .u32 n] 22)) (.func (.func 131) #[] #[.pointer (some ⟨w.heap.size, 0, none⟩), .pointer (some ⟨w.heap.size + 1, 0, none⟩)]) (adrF o n)) := by
    refine ⟨_, _, rfl, Tryz.call131, fun c _ _ => adrF_rng o n c, fun W' hb c h0 h1 => ?_⟩
    exact address1_any w.heap.size (w.heap.size + 1) o n c W' hO hN h0 h1 (r0.on' hb) (r1.on' hb)
  have HB := hide (Below.then b0 b1)
  clear b0 b1 r0 r1 hz hO hN
  go_enter Tryz.func95, Tryz.ntmps95
  go_wp2
  go_ret
  exact ⟨_, rfl, unhide hI, unhide HB⟩

set_option maxHeartbeats 1000000 in
theorem port1_any (b1 b2 : Nat) (o n c : Int) (W : World) (hO : 0 ≤ o ∧ o ≤ 65535) (hN : 0 ≤ n ∧ n ≤ 65535) (h0 : 0 ≤ c) (h1 : c ≤ 65535) (r1 : Row W b1 [.int .i64 o]) (r2 : Row W b2 [.int .i64 n]) :
    Calls Tryz.prog 133 #[.int .u16 c, .pointer (some ⟨b1, 0, none⟩), .pointer (some ⟨b2, 0, none⟩)] W fun e w' => e = .returned (.int .u16 (prtF o n c)) ∧ Below W.heap.size W w' := by
  have HU := hide (fun u => update_any c o n u h0 h1 hO.1 hO.2 hN.1 hN.2)
  have c1 := r1.cell 0 _ rfl
  have c2 := r2.cell 0 _ rfl
  have k1 : IntKind.u16.wrap o = o := by rw [Ck.wrap_u16]; omega
  have k2 : IntKind.u16.wrap n = n := by rw [Ck.wrap_u16]; omega
  clear r1 r2
  have HE : Hid (Ck.upd c o n = prtF o n c) := rfl
  rw [HE.out] at HU
  generalize prtF o n c = X at *
  clear HE h0 h1 hO hN
  go_enter Tryz.func133, Tryz.ntmps133
  go_wp2_with fail
  refine (unhide HU _).mono ?_
  rintro e w1 ⟨rfl, hb⟩
  have HB := hide hb
  clear hb
  go_wp2_with fail
  go_ret
  exact ⟨rfl, unhide HB⟩

set_option maxHeartbeats 1000000 in
set_option maxRecDepth 100000 in
theorem port_any (o n : Int) (w : World) (hO : 0 ≤ o ∧ o ≤ 65535) (hN : 0 ≤ n ∧ n ≤ 65535) :
    Calls Tryz.prog 96 #[.int .i64 o, .int .i64 n] w fun e w' => ∃ v, e = .returned v ∧ IsStep w' v (prtF o n) ∧ Below w.heap.size w w' := by
  have b0 := alloc_on' w (.cells #[.int .i64 o] 3)
  have b1 := alloc_on' (w.alloc (.cells #[.int .i64 o] 3)) (.cells #[.int .i64 n] 3)
  have r0 := (row_new w [.int .i64 o] 3).on' b1
  have r1 := row_new (w.alloc (.cells #[.int .i64 o] 3)) [.int .i64 n] 3
  have hz : (w.alloc (.cells #[.int .i64 o] 3)).heap.size = w.heap.size + 1 := by simp
  rw [hz] at r1
  have hI : Hid (IsStep ((w.alloc (.cells #[.int .i64 o] 3)).alloc (.cells #[.int .i64 n] 3)) (.func (.func 133) #[] #[.pointer (some ⟨w.heap.size, 0, none⟩), .pointer (some ⟨w.heap.size + 1, 0, none⟩)]) (prtF o n)) := by
    refine ⟨_, _, rfl, Tryz.call133, fun c _ _ => prtF_rng o n c, fun W' hb c h0 h1 => ?_⟩
    exact port1_any w.heap.size (w.heap.size + 1) o n c W' hO hN h0 h1 (r0.on' hb) (r1.on' hb)
  have HB := hide (Below.then b0 b1)
  clear b0 b1 r0 r1 hz hO hN
  go_enter Tryz.func96, Tryz.ntmps96
  go_wp2
  go_ret
  exact ⟨_, rfl, unhide hI, unhide HB⟩

/-- As UDP takes a step. -/
def udpF (φ : Int → Int) (c : Int) : Int := if c = 0 then 0 else if φ c = 0 then 65535 else φ c
theorem udpF_rng {φ : Int → Int} (h : ∀ c, 0 ≤ c → c ≤ 65535 → 0 ≤ φ c ∧ φ c ≤ 65535) (c : Int) (h0 : 0 ≤ c) (h1 : c ≤ 65535) : 0 ≤ udpF φ c ∧ udpF φ c ≤ 65535 := by
  unfold udpF
  have := h c h0 h1
  split
  · decide
  · split <;> omega
set_option maxHeartbeats 1000000 in
set_option maxRecDepth 100000 in
theorem unless1_any (b : Nat) (v : Value) (φ : Int → Int) (c : Int) (W : World) (h0 : 0 ≤ c) (h1 : c ≤ 65535) (hr : Row W b [v]) (hs : IsStep W v φ) :
    Calls Tryz.prog 135 #[.int .u16 c, .pointer (some ⟨b, 0, none⟩)] W fun e w' => e = .returned (.int .u16 (udpF φ c)) ∧ Below W.heap.size W w' := by
  obtain ⟨k, C, rfl, s⟩ := hs
  have he := s.ent
  have HC := hide (fun u hb => s.call u hb c h0 h1)
  have cb := hr.cell 0 _ rfl
  have HF : Hid (udpF φ c = if c = 0 then 0 else if φ c = 0 then 65535 else φ c) := rfl
  clear s hr
  generalize udpF φ c = X at *
  generalize φ c = y at *
  have HB0 := hide (Below.refl W.heap.size W)
  by_cases hc : c = 0
  · have HX : Hid (X = 0) := by rw [HF.out, if_pos hc]; rfl
    subst hc
    go_enter Tryz.func135, Tryz.ntmps135
    go_wp2_with fail
    go_ret
    exact ⟨ret_u16 HX.out.symm, unhide HB0⟩
  · have t1 : (c == 0) = false := by simpa using hc
    by_cases hy : y = 0
    · have t2 : (y != 0) = false := by simpa using hy
      have HX : Hid (X = 65535) := by rw [HF.out, if_neg hc, if_pos hy]; rfl
      go_enter Tryz.func135, Tryz.ntmps135
      go_wp2_with fail
      refine (unhide HC _ (Below.refl _ _)).mono ?_
      rintro e w1 ⟨rfl, hb⟩
      have HB := hide hb
      clear hb
      go_wp2_with fail
      go_ret
      exact ⟨ret_u16 HX.out.symm, unhide HB⟩
    · have t2 : (y != 0) = true := by simpa using hy
      have HX : Hid (X = y) := by rw [HF.out, if_neg hc, if_neg hy]; rfl
      go_enter Tryz.func135, Tryz.ntmps135
      go_wp2_with fail
      refine (unhide HC _ (Below.refl _ _)).mono ?_
      rintro e w1 ⟨rfl, hb⟩
      have HB := hide hb
      clear hb
      go_wp2_with fail
      go_ret
      exact ⟨ret_u16 HX.out.symm, unhide HB⟩

set_option maxHeartbeats 1000000 in
set_option maxRecDepth 100000 in
theorem unlessNone_any (v : Value) (φ : Int → Int) (w : World) (hs : IsStep w v φ) :
    Calls Tryz.prog 97 #[v] w fun e w' => ∃ v, e = .returned v ∧ IsStep w' v (udpF φ) ∧ Below w.heap.size w w' := by
  obtain ⟨k, C, rfl, s⟩ := hs
  have b0 := alloc_on' w (.cells #[.func (.func k) #[] C] 139)
  have r0 := row_new w [.func (.func k) #[] C] 139
  have hI : Hid (IsStep (w.alloc (.cells #[.func (.func k) #[] C] 139)) (.func (.func 135) #[] #[.pointer (some ⟨w.heap.size, 0, none⟩)]) (udpF φ)) := by
    refine ⟨_, _, rfl, Tryz.call135, fun c h0 h1 => udpF_rng s.rng c h0 h1, fun W' hb c h0 h1 => ?_⟩
    exact unless1_any w.heap.size _ φ c W' h0 h1 (r0.on' hb) ⟨k, C, rfl, (s.on b0).on hb⟩
  have HB := hide b0
  clear b0 r0 s
  go_enter Tryz.func97, Tryz.ntmps97
  go_wp2
  go_ret
  exact ⟨_, rfl, unhide hI, unhide HB⟩

/-- A check that is gone on with. -/
def goOnS (s : ByteArray) (at_ : Int) (φ : Int → Int) : ByteArray := if gotB s at_ 2 = true then set s at_ 2 (φ (got s at_ 2)) else s
theorem goOnS_le (s : ByteArray) (at_ : Int) (φ : Int → Int) : (goOnS s at_ φ).size ≤ s.size := by
  unfold goOnS
  split
  · exact set_le _ _ _ _
  · exact Nat.le_refl _
theorem got2_rng (s : ByteArray) (p : Int) : 0 ≤ got s p 2 ∧ got s p 2 ≤ 65535 := by
  have h1 := Ic.got_lo s p 2
  have h2 := Ic.got_lt s p 2
  simp at h2
  omega
set_option maxHeartbeats 1000000 in
set_option maxRecDepth 100000 in
theorem goOn_any (s : ByteArray) (at_ : Int) (v : Value) (φ : Int → Int) (w : World) (hs : s.size ≤ 281474976710656) (hv : IsStep w v φ) :
    Calls Tryz.prog 98 #[.string s, .int .i64 at_, v] w fun e w' => e = .returned (.string (goOnS s at_ φ)) ∧ Below w.heap.size w w' := by
  obtain ⟨k, C, rfl, st⟩ := hv
  have HG := hide (fun u => get_any s at_ 2 u (by unfold maxLen; omega))
  obtain ⟨g0, g1⟩ := got2_rng s at_
  have he := st.ent
  obtain ⟨x0, x1⟩ := st.rng _ g0 g1
  have HC := hide (st.call w (Below.refl _ _) _ g0 g1)
  have HF : Hid (goOnS s at_ φ = if gotB s at_ 2 = true then set s at_ 2 (φ (got s at_ 2)) else s) := rfl
  have HW := hide (fun (W : World) (t : TypeId) => with_any s W.heap.size 1 _ (W.alloc (.cells #[.int .i64 at_, .int .i64 2, .int .i64 (φ (got s at_ 2))] t)) hs (by decide) (nums1 (row_new W [.int .i64 at_, .int .i64 2, .int .i64 (φ (got s at_ 2))] t)))
  have HE : Hid (wth s (fun _ => (at_, (2 : Int), φ (got s at_ 2))) 1 = set s at_ 2 (φ (got s at_ 2))) := rfl
  rw [HE.out] at HW
  clear st HE
  generalize goOnS s at_ φ = X at *
  generalize φ (got s at_ 2) = y at *
  generalize set s at_ 2 y = Z at *
  generalize got s at_ 2 = c at *
  have k1 : IntKind.u16.wrap c = c := by rw [Ck.wrap_u16]; omega
  have k2 : IntKind.i64.wrap y = y := Oct.wraps_i64 _ x0 (by omega)
  cases hb2 : gotB s at_ 2 with
  | false =>
    rw [hb2] at HG HF
    clear hb2
    have HX : Hid (X = s) := by rw [HF.out]; rfl
    go_enter Tryz.func98, Tryz.ntmps98
    go_wp2_with fail
    refine (unhide HG _).mono ?_
    rintro e w1 ⟨rfl, rfl⟩
    go_wp2_with fail
    go_ret
    exact ⟨ret_str' HX.out.symm, Below.refl _ _⟩
  | true =>
    rw [hb2] at HG HF
    clear hb2
    have HX : Hid (X = Z) := by rw [HF.out]; rfl
    go_enter Tryz.func98, Tryz.ntmps98
    go_wp2_with fail
    refine (unhide HG _).mono ?_
    rintro e w1 ⟨rfl, rfl⟩
    go_wp2_with fail
    refine (unhide HC).mono ?_
    rintro e w2 ⟨rfl, hb⟩
    have HB := hide hb
    clear hb
    go_wp2_with fail
    refine (unhide HW _ _).mono ?_
    rintro e w3 ⟨rfl, hb⟩
    have HB3 := hide (Below.then (Below.then (unhide HB) (alloc_on' _ _)) hb)
    clear hb
    go_wp2_with fail
    go_ret
    exact ⟨ret_str' HX.out.symm, unhide HB3⟩
end Go.Proofs.YtpjaajeojiaeiaaGreatDoor
