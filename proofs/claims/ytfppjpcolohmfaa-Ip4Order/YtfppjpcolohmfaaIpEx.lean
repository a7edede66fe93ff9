/- The chapter's examples hold: what each statement asks first. -/
import Derived.Test.YtfppjpcolohmfaaIpMath
namespace Go.Proofs.Ytfppjpcolohmfaa
open Go.ChangeShapes Go.WideShapes Go.ChangeAt Go.RowKit

def exH : Hd := ⟨0, 0, 0, 0, 64, 17, 1, 2, ⟨#[]⟩⟩
def exB : ByteArray := ⟨#[97, 98, 99]⟩
theorem exW : exH.Wf := ⟨by decide, by decide, by decide, by decide, by decide, by decide, by decide, by decide, by decide⟩
theorem exR : RightP exH := ⟨by decide, by decide, by decide, by decide, by decide, by decide, by decide, by decide, opts_nil⟩
theorem exBuilt : Built exH exB := ⟨exR, exW, by decide⟩
theorem buildE_of {h : Hd} {body : ByteArray} (b : Built h body) : buildE h body = 0 := by unfold buildE; rw [if_neg (by rw [rightP_to b.r]; decide), if_neg (by have := b.l; omega)]
theorem buildS_of {h : Hd} {body : ByteArray} (b : Built h body) : buildS h body = built h body := by unfold buildS; rw [buildE_of b, if_pos rfl]
theorem parseE_nil : parseE ⟨#[]⟩ = 2 := by
  have : measE ⟨#[]⟩ = 2 := by unfold measE; rw [if_pos (by decide)]
  unfold parseE; rw [this, if_neg (by decide)]
theorem parse_no {s : ByteArray} (h : ¬ parseE s = 0) : parseH s = zeroHd ∧ parseS s = ⟨#[]⟩ := ⟨parseH_no h, parseS_no h⟩

set_option maxRecDepth 100000 in
set_option maxHeartbeats 2000000 in
theorem examples_ok (w : World) : Calls Try.prog 10 #[] w fun e w' => e = .returned (.bool true) ∧ Below w.heap.size w w' := by
  have hal : Below w.heap.size w (w.alloc (.cells #[.int .i64 0, .int .i64 0, .int .i64 0, .int .i64 0, .int .i64 64, .int .i64 17, .int .u32 1, .int .u32 2, .string ⟨#[]⟩] 24)) := (Below.refl _ _).alloc (Nat.le_refl _) _
  have hbox := (newHd w exH 24).at_
  obtain ⟨p1, p2, p3⟩ := parse_built exBuilt ⟨#[112, 97, 100]⟩
  have hbs := built_size (h := exH) exB
  have hsz : (built exH exB).size = 23 := hbs
  have hbe := buildE_of exBuilt
  have hbS := buildS_of exBuilt
  generalize built exH exB = s at *
  clear hbs
  have ha1 := fun (wx : World) => run_string_add_sum (P := Try.prog) (w := wx) s ⟨#[112, 97, 100]⟩ (by rw [hsz]; decide)
  have hs2 : (s ++ ⟨#[112, 97, 100]⟩).size = 26 := by rw [ByteArray.size_append, hsz]; rfl
  go_enter Try.func10, Try.ntmps10
  go_wp2_with fail
  refine (build_any exH exB _ exW (by decide)).mono ?_
  rintro e w1 ⟨rfl, hb1⟩
  rw [hbe, hbS]
  have hx1 := hbox.on hb1 (by simp)
  have hw1 := hal.trans (hb1.mono (by simp))
  have hs1 : w.heap.size + 1 ≤ w1.heap.size := by have := hb1.size; simp at this; omega
  clear hb1 hal hbox hbe hbS
  have HX := hide hx1
  have HW := hide hw1
  clear hx1 hw1
  go_wp2_with fail
  refine (parse_any _ _ (by rw [hs2]; decide)).mono ?_
  rintro e w2 ⟨rfl, hb2⟩
  rw [p1, p2, p3]
  have hx2 := (unhide HX).on hb2 (by omega)
  have hw2 := (unhide HW).trans (hb2.mono (by omega))
  have hs3 : w.heap.size + 1 ≤ w2.heap.size := by have := hb2.size; omega
  have hn := newHd w2 exH 24
  have hna : Below w2.heap.size w2 (w2.alloc (.cells #[.int .i64 exH.tos, .int .i64 exH.id, .int .i64 exH.flags, .int .i64 exH.frag, .int .i64 exH.ttl, .int .i64 exH.proto, .int .u32 exH.src, .int .u32 exH.dst, .string exH.opts] 24)) := (Below.refl _ _).alloc (Nat.le_refl _) _
  have hx3 := hx2.on hna (by omega)
  have hw3 := hw2.trans (hna.mono (by omega))
  have HX := hide hx3
  have HN := hide hn.at_
  have HW := hide hw3
  have HZ : Hid ((w2.alloc (.cells #[.int .i64 exH.tos, .int .i64 exH.id, .int .i64 exH.flags, .int .i64 exH.frag, .int .i64 exH.ttl, .int .i64 exH.proto, .int .u32 exH.src, .int .u32 exH.dst, .string exH.opts] 24)).heap.size = w2.heap.size + 1) := by show _ = _; simp
  clear hb2 hx2 hw2 hn hna hx3 hw3 p1 p2 p3
  go_wp2_with fail
  refine (parse_any _ _ (by decide)).mono ?_
  rintro e w3 ⟨rfl, hb3⟩
  rw [parseE_nil, (parse_no (s := ⟨#[]⟩) (by rw [parseE_nil]; decide)).1, (parse_no (s := ⟨#[]⟩) (by rw [parseE_nil]; decide)).2]
  have hx4 := (unhide HX).on hb3 (by have := HZ.out; omega)
  have hn4 := (unhide HN).on hb3 (by have := HZ.out; omega)
  have hw4 := (unhide HW).trans (hb3.mono (by have := HZ.out; omega))
  have hs4 : w2.heap.size + 1 ≤ w3.heap.size := by have := hb3.size; have := HZ.out; omega
  have hza : Below w3.heap.size w3 (w3.alloc (.cells #[.int .i64 zeroHd.tos, .int .i64 zeroHd.id, .int .i64 zeroHd.flags, .int .i64 zeroHd.frag, .int .i64 zeroHd.ttl, .int .i64 zeroHd.proto, .int .u32 zeroHd.src, .int .u32 zeroHd.dst, .string zeroHd.opts] 24)) := (Below.refl _ _).alloc (Nat.le_refl _) _
  have hx5 := hx4.on hza (by omega)
  have hn5 := hn4.on hza (by omega)
  have hw5 := hw4.trans (hza.mono (by omega))
  clear HX HN HW HZ hb3 hx4 hn4 hw4 hza
  have c0 := hx5 0 (by decide)
  have d0 := hn5 0 (by decide)
  have c1 := hx5 1 (by decide)
  have d1 := hn5 1 (by decide)
  have c2 := hx5 2 (by decide)
  have d2 := hn5 2 (by decide)
  have c3 := hx5 3 (by decide)
  have d3 := hn5 3 (by decide)
  have c4 := hx5 4 (by decide)
  have d4 := hn5 4 (by decide)
  have c5 := hx5 5 (by decide)
  have d5 := hn5 5 (by decide)
  have c6 := hx5 6 (by decide)
  have d6 := hn5 6 (by decide)
  have c7 := hx5 7 (by decide)
  have d7 := hn5 7 (by decide)
  have c8 := hx5 8 (by decide)
  have d8 := hn5 8 (by decide)
  simp only [hcell, exH] at c0 d0 c1 d1 c2 d2 c3 d3 c4 d4 c5 d5 c6 d6 c7 d7 c8 d8
  have HW := hide hw5
  clear hx5 hn5 hw5
  have hebe : exB = ⟨#[97, 98, 99]⟩ := rfl
  go_wp2_with fail
  go_ret
  exact ⟨rfl, unhide HW⟩
end Go.Proofs.Ytfppjpcolohmfaa
