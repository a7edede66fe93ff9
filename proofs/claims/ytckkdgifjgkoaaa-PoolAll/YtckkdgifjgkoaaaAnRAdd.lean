/- Add of the reference of chapter 12. -/
import Derived.Test.YtckkdgifjgkoaaaAnTell
namespace Go.Proofs.Ytckkdgifjgkoaaa
open Go.ChangeShapes Go.WideShapes Go.ChangeAt Go.RowKit An

section
variable {base : Nat} {w : World} {b : Bk} {v : Value} {s : An}
set_option maxHeartbeats 400000 in
theorem radd_full (hA : AnAt hdR base w b v s) (hS : s.S = []) :
    Calls Try.prog 45 #[.pointer (some ⟨b.p, 0, none⟩)] w fun e w' => e = .returned (.tuple #[.int .i64 0, .int .i64 16]) ∧ w' = w := by
  obtain ⟨_, _, _, _, c5, _⟩ := hA.headR
  obtain ⟨a, cap, rfl⟩ := hA.empty hS
  clear hS
  go_enter Try.func45, Try.ntmps45
  go_wp2_with fail
  go_ret2
  exact ⟨rfl, rfl⟩
set_option maxRecDepth 100000 in
set_option maxHeartbeats 2000000 in
theorem radd_ok (hA : AnAt hdR base w b v s) (hr : s.r ≤ 65536) {x : Nat} {rest : List Nat} (hS : s.S = x :: rest) (hl : rest.length ≤ 65536) (hx : x < s.r) (hn : s.n < s.r) (hW : s.W s.n < s.r) (hL : upd s.L (s.W s.n) s.n x < s.r) :
    Calls Try.prog 45 #[.pointer (some ⟨b.p, 0, none⟩)] w fun e w' => e = .returned (.tuple #[.int .i64 (x : Int), .int .i64 0]) ∧ ∃ v', AnAt hdR base w' b v' (back s x) ∧ Went w w' b v v' := by
  obtain ⟨_, _, _, _, c5, _⟩ := hA.headR
  obtain ⟨g, cap, hv, hcap, cg⟩ := hA.top hS
  have HA1 := hA.pop hS hv 4 rfl
  subst hv
  obtain ⟨k, hk⟩ : ∃ k, rest.length = k := ⟨_, rfl⟩
  rw [hk] at c5 hcap cg HA1 hl
  have HW1 : Shut (Went w (w.setCell ⟨b.p, 4, none⟩ (.slice (some ⟨g, 0, none⟩) k cap)) b (.slice (some ⟨g, 0, none⟩) (rest.length + 1) cap) (.slice (some ⟨g, 0, none⟩) k cap)) := ⟨Went.pop (W := w) (b := b) (g := g) (n := rest.length + 1) (m := k) (cap := cap) 4 (.slice (some ⟨g, 0, none⟩) k cap)⟩
  rw [hk] at HW1
  have g5 := hA.head.free 4
  have HS : Shut (s.S = x :: rest) := ⟨hS⟩
  have HLl : Shut (upd s.L (s.W s.n) s.n x < s.r) := ⟨hL⟩
  have HWn : Shut (s.W s.n < s.r) := ⟨hW⟩
  have HN : Shut (s.n < s.r) := ⟨hn⟩
  have HX : Shut (x < s.r) := ⟨hx⟩
  have HR : Shut (s.r ≤ 65536) := ⟨hr⟩
  have HA2 : Shut _ := ⟨HA1⟩
  have hkc : (k : Int) ≤ cap := by omega
  have hk1 : (k : Int) ≤ 1000000 := by omega
  clear hA HA1 hcap hS hr hl hx hn hW hL
  rw [hk]
  clear hk
  go_enter Try.func45, Try.ntmps45
  go_wp2_with fail
  go_region
  go_wp2_with fail
  go_region
  have HA3 : Shut (AnAt hdR base (w.setCell ⟨b.p, 4, none⟩ (.slice (some ⟨g, 0, none⟩) k cap)).drew.drew b (.slice (some ⟨g, 0, none⟩) k cap) { s with S := rest }) := ⟨HA2.out.drew.drew⟩
  have HW3 : Shut _ := ⟨HW1.out.drew.drew⟩
  generalize (w.setCell ⟨b.p, 4, none⟩ (.slice (some ⟨g, 0, none⟩) k cap)).drew.drew = V0 at *
  clear HA2 HW1 c5 cg g5 hk1 hkc
  have c1 : V0.cell? ⟨b.p, 0, none⟩ = some (.slice (some ⟨b.a, 0, none⟩) s.r b.ca) := HA3.out.headR.1
  have ca : V0.cell? ⟨b.a, x, none⟩ = some (.int .i64 (s.A x : Int)) := HA3.out.cellA x HX.out
  have ga : V0.frozen? ⟨b.a, x, none⟩ = false := HA3.out.la.free x
  have hx1 : (x : Int) < s.r := by have := HX.out; omega
  have HA2 : Shut (AnAt hdR base (V0.setCell ⟨b.a, x, none⟩ (.int .i64 0)) b (.slice (some ⟨g, 0, none⟩) k cap) { s with S := rest, A := upd s.A x 0 }) := ⟨HA3.out.setA x 0 HX.out rfl⟩
  have HW2 : Shut _ := ⟨HW3.out.cell b.ma x (.int .i64 0)⟩
  clear HA3 HW3
  go_wp2_with fail
  generalize V0.setCell ⟨b.a, x, none⟩ (.int .i64 0) = V at *
  clear c1 ca ga
  have c0 : V.cell? ⟨b.p, 5, none⟩ = some (.int .i64 (s.n : Int)) := HA2.out.headR.2.2.2.2.2
  have c2 : V.cell? ⟨b.p, 1, none⟩ = some (.slice (some ⟨b.o, 0, none⟩) s.r b.co) := HA2.out.headR.2.1
  have c3 : V.cell? ⟨b.p, 2, none⟩ = some (.slice (some ⟨b.l, 0, none⟩) s.r b.cl) := HA2.out.headR.2.2.1
  have cw : V.cell? ⟨b.o, s.n, none⟩ = some (.int .i64 (s.W s.n : Int)) := HA2.out.cellW s.n HN.out
  have cl : V.cell? ⟨b.l, s.W s.n, none⟩ = some (.int .i64 (s.L (s.W s.n) : Int)) := HA2.out.cellL _ HWn.out
  have gl : V.frozen? ⟨b.l, s.W s.n, none⟩ = false := HA2.out.ll.free _
  have hn1 : (s.n : Int) < s.r := by have := HN.out; omega
  have hw1 : (s.W s.n : Int) < s.r := by have := HWn.out; omega
  have HA3 : Shut (AnAt hdR base (V.setCell ⟨b.l, s.W s.n, none⟩ (.int .i64 (s.n : Int))).drew b _ { s with S := rest, A := upd s.A x 0, L := upd s.L (s.W s.n) s.n }) := ⟨(HA2.out.setL _ _ HWn.out rfl).drew⟩
  have HW3 : Shut _ := ⟨(HW2.out.cell b.ml (s.W s.n) (.int .i64 (s.n : Int))).drew⟩
  clear HA2 HW2
  obtain ⟨y, hy⟩ : ∃ y, s.W s.n = y := ⟨_, rfl⟩
  rw [hy] at cw cl gl hw1 HA3 HW3 HLl HWn
  have HY : Shut (s.W s.n = y) := ⟨hy⟩
  clear hy
  go_region
  generalize (V.setCell ⟨b.l, y, none⟩ (.int .i64 (s.n : Int))).drew = V3 at *
  clear c0 c2 c3 cw cl gl hn1 hw1
  have c2 : V3.cell? ⟨b.p, 1, none⟩ = some (.slice (some ⟨b.o, 0, none⟩) s.r b.co) := HA3.out.headR.2.1
  have c3 : V3.cell? ⟨b.p, 2, none⟩ = some (.slice (some ⟨b.l, 0, none⟩) s.r b.cl) := HA3.out.headR.2.2.1
  have cl : V3.cell? ⟨b.l, x, none⟩ = some (.int .i64 (upd s.L y s.n x : Int)) := HA3.out.cellL x HX.out
  have co : V3.cell? ⟨b.o, upd s.L y s.n x, none⟩ = some (.int .i64 (s.W (upd s.L y s.n x) : Int)) := HA3.out.cellW _ HLl.out
  have go : V3.frozen? ⟨b.o, upd s.L y s.n x, none⟩ = false := HA3.out.lo.free _
  have hp1 : (upd s.L y s.n x : Int) < s.r := by have := HLl.out; omega
  have HA4 : Shut (AnAt hdR base (V3.setCell ⟨b.o, upd s.L y s.n x, none⟩ (.int .i64 (x : Int))).drew b _ { s with S := rest, A := upd s.A x 0, L := upd s.L y s.n, W := upd s.W (upd s.L y s.n x) x }) := ⟨(HA3.out.setW _ x HLl.out rfl).drew⟩
  have HW4 : Shut _ := ⟨(HW3.out.cell b.mo (upd s.L y s.n x) (.int .i64 (x : Int))).drew⟩
  clear HA3 HW3
  obtain ⟨p, hp⟩ : ∃ p, upd s.L y s.n x = p := ⟨_, rfl⟩
  rw [hp] at cl co go hp1 HA4 HW4 HLl
  have HP : Shut (upd s.L y s.n x = p) := ⟨hp⟩
  clear hp
  go_wp2_with fail
  go_region
  generalize (V3.setCell ⟨b.o, p, none⟩ (.int .i64 (x : Int))).drew = V4 at *
  clear c2 c3 cl co go hp1
  have c4 : V4.cell? ⟨b.p, 3, none⟩ = some (.slice (some ⟨b.k, 0, none⟩) s.r b.ck) := HA4.out.headR.2.2.2.1
  have ck : V4.cell? ⟨b.k, x, none⟩ = some (.int .i64 (s.K x : Int)) := HA4.out.cellK x HX.out
  have gk : V4.frozen? ⟨b.k, x, none⟩ = false := HA4.out.lk.free x
  have hpk : ¬ b.p = b.k := HA4.out.ne.2.2.2.1
  have c0 : V4.cell? ⟨b.p, 5, none⟩ = some (.int .i64 (s.n : Int)) := HA4.out.headR.2.2.2.2.2
  have g0 := HA4.out.head.free 5
  have hn1 : (s.n : Int) ≤ 1000000 := by have := HN.out; have := HR.out; omega
  have HA5 : Shut (AnAt hdR base ((V4.setCell ⟨b.k, x, none⟩ (.int .i64 (x : Int))).setCell ⟨b.p, 5, none⟩ (.int .i64 ((s.n : Int) + 1))) b _ (back s x)) := ⟨by
    have h := (HA4.out.setK x x HX.out rfl).setNR (s.n + 1)
    have e : s.S.tail = rest := by rw [HS.out]; rfl
    unfold back
    rw [e, HY.out, HP.out]
    exact h⟩
  have HW5 : Shut _ := ⟨(HW4.out.cell b.mk' x (.int .i64 (x : Int))).cell b.mp 5 (.int .i64 ((s.n : Int) + 1))⟩
  clear HA4 HW4
  go_wp2_with fail
  go_ret2
  exact ⟨rfl, _, HA5.out, HW5.out⟩
end
end Go.Proofs.Ytckkdgifjgkoaaa
