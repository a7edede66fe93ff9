/- Working: the buckets that work are handed on, rising. -/
import Derived.Test.YtckkdgifjgkoaaaAnTell
import Derived.Shelf.RegionOpen
namespace Go.Proofs.Ytckkdgifjgkoaaa
open Go.ChangeShapes Go.WideShapes Go.ChangeAt Go.RowKit Go.Shelf An
attribute [local go_sem] Oper.semAt_some

theorem Lst.keeps {S : Nat → Prop} {W W' : World} {g r : Nat} {f : Nat → Nat} (h : Lst W g r f) (hk : Keeps S W W') (hS : S g) : Lst W' g r f := h.of_block (hk.block g hS h.lt)
theorem Keeps.cell {S : Nat → Prop} {W W' : World} (h : Keeps S W W') {p : Addr} {v : Value} (hp : S p.block) (hc : W.cell? p = some v) : W'.cell? p = some v := by
  rw [World.cell?_of_block (w := W) (h.block p.block hp (block_lt_of_cell hc))]; exact hc

set_option maxRecDepth 100000 in
set_option maxHeartbeats 1000000 in
theorem all1_gives (g r c : Nat) (f : Nat → Nat) (hr : r ≤ 65536) (Bs : Nat) (S : Nat → Prop) (W0 : World) (hSg : S g) (hc : W0.cell? ⟨Bs, 0, none⟩ = some (.slice (some ⟨g, 0, none⟩) r c)) (hL : Lst W0 g r f) :
    Gives Try.prog 87 #[.pointer (some ⟨Bs, 0, none⟩)] (fun _ => true) (fun k => #[.int .i64 (k : Int), .int .i64 (f k : Int)]) r S W0 := by
  intro l J Jx hl hJ hJx _ hY h0
  have hr1 : (r : Int) ≤ 1000000 := by omega
  refine callsIn_of_wp Try.func87 rfl trivial ?_ rfl
  simp only [Try.ntmps87, List.size_toArray, List.length_cons, List.length_nil, Nat.reduceAdd, Nat.reduceSub, Array.replicate_succ, Array.replicate_zero, List.push_toArray, List.append_toArray, List.nil_append, List.cons_append]
  gi_wp2
  gi_loopw [3, 4, 7] (fun _ _ i wr => ∃ k : Nat, k ≤ r ∧ i = .int .i64 (k : Int) ∧ J k wr ∧ Lst wr g r f) (fun _ _ i _ => r - (intOf i).toNat)
  case atStart => exact ⟨0, Nat.zero_le _, rfl, h0, hL⟩
  case round =>
    obtain ⟨k, hk, rfl, hJs, hLr⟩ := hrel
    by_cases hlt : k < r
    · have hlt1 : (k : Int) < r := by omega
      have hcr := hLr.cell k hlt
      obtain ⟨fn, tmps, assign, body, hy, hR⟩ := hY k wr hlt (by simp) hJs
      have HL : Shut (∀ W', Keeps S wr W' → Lst W' g r f) := ⟨fun W' h => hLr.keeps h hSg⟩
      clear hLr
      gi_wp2
      refine ⟨rfl, hR.mono ?_⟩
      rintro e W3 (⟨rfl, hJ3, hA3⟩ | ⟨rfl, hJx3, hA3⟩)
      · have hL3 := HL.out W3 hA3
        gi_wp2
        go_roundw
        case rel => exact ⟨k + 1, by omega, by simp, hJ3, hL3⟩
        case measure => simp [intOf]; omega
      · gi_wp2
        refine bodyPost_ret (results_none rfl _ _ _) rfl ?_
        exact ⟨⟨_, rfl⟩, .inr ⟨k + 1, by omega, hJx3⟩⟩
    · obtain rfl : k = r := by omega
      gi_wp2
      go_end0
      exact ⟨⟨_, rfl⟩, .inl hJs⟩

set_option maxHeartbeats 400000 in
theorem all_any (v : Value) (w : World) (a : Option Addr) (n c : Nat) (hv : v = .slice a n c) :
    Calls Try.prog 70 #[v] w fun e w' => e = .returned (.func (.func 87) #[] #[.pointer (some ⟨w.heap.size, 0, none⟩)]) ∧ w' = w.alloc (.cells #[v] 44) := by
  subst hv
  go_enter Try.func70, Try.ntmps70
  go_wp2
  go_ret
  exact ⟨rfl, rfl⟩
set_option maxHeartbeats 400000 in
theorem working_any (p : Nat) (w : World) :
    Calls Try.prog 54 #[.pointer (some ⟨p, 0, none⟩)] w fun e w' => e = .returned (.func (.func 69) #[] #[.pointer (some ⟨w.heap.size, 0, none⟩)]) ∧ w' = w.alloc (.cells #[.pointer (some ⟨p, 0, none⟩)] 67) := by
  go_enter Try.func54, Try.ntmps54
  go_wp2
  go_ret
  exact ⟨rfl, rfl⟩

/-- What Working's function reads: the struct's list of A. -/
structure Reads (W : World) (p g r c : Nat) (f : Nat → Nat) : Prop where
  cell : W.cell? ⟨p, 1, none⟩ = some (.slice (some ⟨g, 0, none⟩) r c)
  lst : Lst W g r f
theorem Reads.on {W W' : World} {p g r c : Nat} {f : Nat → Nat} (h : Reads W p g r c f) (hb : Below W.heap.size W W') : Reads W' p g r c f :=
  ⟨(hb.cell (block_lt_of_cell h.cell)).trans h.cell, h.lst.of_block (hb.block g h.lst.lt)⟩

set_option maxRecDepth 100000 in
set_option maxHeartbeats 4000000 in
theorem working1_gives (p g r c : Nat) (f : Nat → Nat) (hr : r ≤ 65536) (Bs : Nat) (S : Nat → Prop) (W0 : World) (hSn : ∀ k, W0.heap.size ≤ k → S k) (hSg : S g) (hc : W0.cell? ⟨Bs, 0, none⟩ = some (.pointer (some ⟨p, 0, none⟩))) (hrd : Reads W0 p g r c f) :
    Gives Try.prog 69 #[.pointer (some ⟨Bs, 0, none⟩)] (fun k => decide (f k = 0)) (fun k => #[.int .i64 (k : Int)]) r S W0 := by
  intro l J Jx hl hJ hJx hskip hY h0
  have cp := hrd.cell
  have hlt0 : Bs < W0.heap.size := block_lt_of_cell hc
  have hltp : p < W0.heap.size := block_lt_of_cell cp
  refine callsIn_of_wp_marks Try.func69 rfl trivial ?_ rfl
  simp only [Try.ntmps69, List.size_toArray, List.length_cons, List.length_nil, Nat.reduceAdd, Nat.reduceSub, Array.replicate_succ, Array.replicate_zero, List.push_toArray, List.append_toArray, List.nil_append, List.cons_append]
  gi_wp2
  refine ⟨trivial, rfl, (callsIn_wide.2 (all_any _ _ _ _ _ rfl)).mono ?_⟩
  rintro e w' ⟨rfl, rfl⟩
  gi_wp2
  have hsz : ((W0.alloc (.cells #[.func (.yield l) #[] #[]] 109)).alloc (.cells #[.slice (some ⟨g, 0, none⟩) r c] 44)).heap.size = W0.heap.size + 2 := by simp
  have hyc : ((W0.alloc (.cells #[.func (.yield l) #[] #[]] 109)).alloc (.cells #[.slice (some ⟨g, 0, none⟩) r c] 44)).cell? ⟨W0.heap.size, 0, none⟩ = some (.func (.yield l) #[] #[]) := by simp [go_sem]
  have hsc : ((W0.alloc (.cells #[.func (.yield l) #[] #[]] 109)).alloc (.cells #[.slice (some ⟨g, 0, none⟩) r c] 44)).cell? ⟨W0.heap.size + 1, 0, none⟩ = some (.slice (some ⟨g, 0, none⟩) r c) := by simp [go_sem]
  have hB : Below W0.heap.size W0 ((W0.alloc (.cells #[.func (.yield l) #[] #[]] 109)).alloc (.cells #[.slice (some ⟨g, 0, none⟩) r c] 44)) := ((Below.refl _ W0).alloc (Nat.le_refl _) _).alloc (by simp) _
  have hJ0 := hJ 0 _ _ h0 hB
  have hL0 := (hrd.on hB).lst
  obtain ⟨V0, hV0⟩ : ∃ V0, (W0.alloc (.cells #[.func (.yield l) #[] #[]] 109)).alloc (.cells #[.slice (some ⟨g, 0, none⟩) r c] 44) = V0 := ⟨_, rfl⟩
  rw [hV0] at hsz hyc hsc hJ0 hL0 ⊢
  clear hV0 hB
  refine wpIn_gives (gf := 87) (lb := #[.pointer (some ⟨W0.heap.size + 1, 0, none⟩)]) (on := fun _ => true) (enc := fun k => #[.int .i64 (k : Int), .int .i64 (f k : Int)]) (N := r) (S := S) rfl (enters_of Try.func87 (by kernel_rfl) rfl)
    (fun W1 hb1 _ => all1_gives g r c f hr (W0.heap.size + 1) S W1 hSg ((hb1.cell (p := ⟨W0.heap.size + 1, 0, none⟩) (by simp; omega)).trans hsc) (hL0.of_block (hb1.block g hL0.lt))) (fun k hk => hSn k (by omega)) (fun _ => rfl)
    (fun k W => J k W ∧ W.cell? ⟨W0.heap.size, 0, none⟩ = some (.func (.yield l) #[] #[])) (fun c k W => c = .ret ∧ Jx k W)
    (fun k W W' h hb => ⟨hJ k W W' h.1 (hb.mono (by omega)), (hb.cell (p := ⟨W0.heap.size, 0, none⟩) (by simp; omega)).trans h.2⟩) (fun c k W W' h hb => ⟨h.1, hJx k W W' h.2 (hb.mono (by omega))⟩)
    ⟨hJ0, hyc⟩ (fun k W _ h _ => absurd h (by simp))
    (fun k => { tmps := #[.func (.yield l) #[] #[], .pointer (some ⟨Bs, 0, none⟩), .pointer (some ⟨W0.heap.size, 0, none⟩), .int .i64 (k : Int), .int .i64 (f k : Int), .pointer (some ⟨p, 0, none⟩), .pointer (some ⟨p, 0, none⟩), .pointer (some ⟨p, 1, none⟩), .slice (some ⟨g, 0, none⟩) r c, .func (.func 87) #[] #[.pointer (some ⟨W0.heap.size + 1, 0, none⟩)], .int .i64 (k : Int), .int .i64 (f k : Int), undef, undef, undef, undef, undef, undef, undef, undef], defers := [] })
    ?assign ?body ?done ?stop
  case assign =>
    intro l' k W K hK
    gi_wp2
    exact hK
  case body =>
    rintro l' k W hk _ ⟨hj, hcell⟩
    by_cases hz : f k = 0
    · obtain ⟨fn, tmps, assign, body, hy, hR⟩ := hY k W hk (by simp [hz]) hj
      rw [hz]
      clear hz
      gi_wp2
      refine ⟨rfl, hR.mono ?_⟩
      rintro e w' (⟨rfl, hj', hA'⟩ | ⟨rfl, hx', hA'⟩)
      · have hc' := hA'.cell (p := ⟨W0.heap.size, 0, none⟩) (hSn _ (Nat.le_refl _)) hcell
        gi_wp2
        exact ⟨hA', hj', hc'⟩
      · gi_wp2
        exact ⟨hA'.mono (by omega), rfl, hx'⟩
    · have hj' := hskip k W hk (by simp [hz]) hj
      have hz1 : ((f k : Int) == 0) = false := by simpa using hz
      gi_wp2
      refine ⟨(fun _ h => nomatch h), ?_⟩
      gi_wp2
      exact ⟨Keeps.refl _ _, hj', hcell⟩
  case done =>
    rintro W ⟨hj, _⟩ hK
    gi_wp2
    refine ⟨by simp, .inl ⟨_, _, rfl, run_takeDeferred hK, ?_⟩⟩
    exact ⟨_, results_none rfl _ _ _, ⟨_, rfl⟩, .inl (hJ _ _ _ hj (below_put (Below.refl _ _) (by omega) _))⟩
  case stop =>
    rintro c k W hk ⟨rfl, hx⟩ hK
    gi_wp2
    refine ⟨by simp, .inl ⟨_, _, rfl, run_takeDeferred hK, ?_⟩⟩
    exact ⟨_, results_none rfl _ _ _, ⟨_, rfl⟩, .inr ⟨k, hk, hJx _ _ _ hx (below_put (Below.refl _ _) (by omega) _)⟩⟩
end Go.Proofs.Ytckkdgifjgkoaaa
