/- What first and when of package packet do, whatever closures they are handed: the doubts are asked one behind the other, up to the first that has an error. -/
import Derived.Test.YtpjaajeojiaeiaaGreatDoorPkRow
import Derived.Laws.EntriesVeiled
namespace Go.Proofs.YtpjaajeojiaeiaaGreatDoor
open Go.ChangeShapes Go.WideShapes Go.ChangeAt Go.RowKit

theorem alloc_on (W : World) (o : Obj) : Below W.heap.size W (W.alloc o) := (Below.refl _ _).alloc (Nat.le_refl _) _
/-- Of n doubts, whose closures are the functions K i over what C i captured: before the i-th is asked Q i holds; where one has an error x, R x holds; and R 0 behind the last one. -/
structure Doubts (g n : Nat) (K : Nat → FuncId) (C : Nat → Array Value) (Q : Nat → World → Prop) (R : Int → World → Prop) : Prop where
 cell : ∀ i W, i < n → Q i W → W.cell? ⟨g, i, none⟩ = some (.func (.func (K i)) #[] (C i))
 call : ∀ i W, i < n → Q i W → Calls Tryz.prog (K i) (C i) W fun e w' => ∃ x, e = .returned (.int .i64 x) ∧ ((x = 0 ∧ Q (i + 1) w') ∨ (x ≠ 0 ∧ R x w'))
 ent : ∀ i, i < n → ∀ args W, (callFunc (K i) args).run Tryz.prog W = .ok (.enter (K i) args) W
 on : ∀ i W W', Q i W → Below W.heap.size W W' → Q i W'
 fin : ∀ W, Q n W → R 0 W

set_option maxHeartbeats 1000000 in
set_option maxRecDepth 100000 in
theorem first_any (g n : Nat) (K : Nat → FuncId) (C : Nat → Array Value) (Q : Nat → World → Prop) (R : Int → World → Prop) (D : Doubts g n K C Q R) (hn : n ≤ 100) (w : World) (h0 : Q 0 w) :
  Calls Tryz.prog 36 #[.slice (some ⟨g, 0, none⟩) n n] w fun e w' => ∃ x, e = .returned (.int .i64 x) ∧ R x w' := by
 have HD := hide D
 clear D
 go_enter Tryz.func36, Tryz.ntmps36
 go_wp2
 go_loopw [8] (fun i W => ∃ k : Nat, k ≤ n ∧ i = .int .i64 k ∧ Hid (Q k W)) (fun i _ => n - (intOf i).toNat)
 case atStart => exact ⟨0, Nat.zero_le _, rfl, h0⟩
 case round =>
  obtain ⟨k, hk, rfl, hq⟩ := hrel
  by_cases hkn : k < n
  ·have hc := (unhide HD).cell k _ hkn hq.out
   have he := (unhide HD).ent k hkn
   have HC := hide ((unhide HD).call k _ hkn ((unhide HD).on k _ _ hq.out ((Below.refl _ _).alloc (Nat.le_refl _) (.cells #[.func (.func (K k)) #[] (C k)] 82))))
   go_wp2_with fail
   refine (unhide HC).mono ?_
   rintro e w1 ⟨x, rfl, hx⟩
   rcases hx with ⟨rfl, hq1⟩ | ⟨hx, hr⟩
   ·have HQ := hide hq1
    clear hq1 hq hc
    go_wp2_with fail
    go_roundw
    case rel => exact ⟨k + 1, by omega, by go_num, HQ⟩
    case measure => simp [intOf]; omega
   ·have hxd : (x != 0) = true := by simpa using hx
    have HR := hide hr
    clear hr hx hq hc
    go_wp2_with fail
    go_ret
    exact ⟨_, rfl, unhide HR⟩
  ·have hk2 : k = n := by omega
   subst hk2
   go_wp2_with fail
   go_ret
   exact ⟨_, rfl, (unhide HD).fin _ hq.out⟩

set_option maxRecDepth 100000 in
set_option maxHeartbeats 1000000 in
theorem when_any (x : Int) (k : FuncId) (C : Array Value) (w : World) :
  Calls Tryz.prog 39 #[.int .i64 x, .func (.func k) #[] C] w fun e w' =>
   e = .returned (.agg #[.func (.func 70) #[] #[.pointer (some ⟨w.heap.size + 1, 0, none⟩), .pointer (some ⟨w.heap.size, 0, none⟩)]]) ∧
   Row w' w.heap.size [.int .i64 x] ∧ Row w' (w.heap.size + 1) [.func (.func k) #[] C] ∧ Below w.heap.size w w' ∧ w'.heap.size = w.heap.size + 3 := by
 go_enter Tryz.func39, Tryz.ntmps39
 go_wp2
 refine bodyPost_ret (v := .agg #[.func (.func 70) #[] #[.pointer (some ⟨w.heap.size + 1, 0, none⟩), .pointer (some ⟨w.heap.size, 0, none⟩)]]) (by simp [results, Tryz.results39, go_sem]) rfl ⟨rfl, ?_, ?_, ?_, by simp⟩
 ·exact ((row_new w [.int .i64 x] 31).on' (alloc_on _ _)).on' (alloc_on _ _)
 ·have := (row_new (w.alloc (.cells #[.int .i64 x] 31)) [.func (.func k) #[] C] 28).on' (alloc_on _ (.cells #[.func (.func 70) #[] #[.pointer (some ⟨w.heap.size + 1, 0, none⟩), .pointer (some ⟨w.heap.size, 0, none⟩)]] 82))
  simpa using this
 ·exact Below.then (Below.then (alloc_on _ _) (alloc_on _ _)) (alloc_on _ _)

set_option maxRecDepth 100000 in
set_option maxHeartbeats 1000000 in
theorem when1_any (be bf : Nat) (x : Int) (k : FuncId) (C : Array Value) (b : Bool) (W : World) (h1 : Row W bf [.func (.func k) #[] C]) (h2 : Row W be [.int .i64 x])
  (he : ∀ args W, (callFunc k args).run Tryz.prog W = .ok (.enter k args) W)
  (hc : Calls Tryz.prog k C W fun e W' => e = .returned (.bool b) ∧ Below W.heap.size W W') :
  Calls Tryz.prog 70 #[.pointer (some ⟨bf, 0, none⟩), .pointer (some ⟨be, 0, none⟩)] W fun e W' => e = .returned (.int .i64 (if b = true then x else 0)) ∧ Below W.heap.size W W' := by
 have c1 := h1.cell 0 _ rfl
 have HC := hide hc
 have H2 := hide h2
 clear h1 hc h2
 go_enter Tryz.func70, Tryz.ntmps70
 go_wp2_with fail
 refine (unhide HC).mono ?_
 rintro e W1 ⟨rfl, hb⟩
 have c2 := ((unhide H2).on' hb).cell 0 _ rfl
 have HB := hide hb
 clear hb c1
 cases b with
 | false =>
  go_wp2_with fail
  go_ret
  exact ⟨rfl, unhide HB⟩
 | true =>
  go_wp2_with fail
  go_ret
  exact ⟨rfl, unhide HB⟩

/-- The first that is not 0. -/
def firstL : List Int → Int
 | [] => 0
 | e :: r => if e = 0 then firstL r else e
/-- Doubts that change nothing. -/
theorem first_quiet (g : Nat) (es : List Int) (K : Nat → FuncId) (C : Nat → Array Value) (V : World) (hn : es.length ≤ 100) (hcell : ∀ i, i < es.length → V.cell? ⟨g, i, none⟩ = some (.func (.func (K i)) #[] (C i)))
  (hent : ∀ i, i < es.length → ∀ args W, (callFunc (K i) args).run Tryz.prog W = .ok (.enter (K i) args) W)
  (hcall : ∀ i, i < es.length → ∀ W, Below V.heap.size V W → Calls Tryz.prog (K i) (C i) W fun e W' => e = .returned (.int .i64 (es.getD i 0)) ∧ Below W.heap.size W W') :
  Calls Tryz.prog 36 #[.slice (some ⟨g, 0, none⟩) es.length es.length] V fun e W' => e = .returned (.int .i64 (firstL es)) ∧ Below V.heap.size V W' := by
 have D : Doubts g es.length K C (fun i W => Below V.heap.size V W ∧ firstL (es.drop i) = firstL es) (fun x W => x = firstL es ∧ Below V.heap.size V W) :=
  {cell := fun i W hi hq => by rw [hq.1.cell (block_lt_of_cell (hcell i hi))]; exact hcell i hi
   call := fun i W hi hq => (hcall i hi W hq.1).mono fun e W' ⟨he, hb⟩ => by
    have hs : es.drop i = es.getD i 0 :: es.drop (i + 1) := by
     rw [List.drop_eq_getElem_cons hi, List.getD_eq_getElem?_getD, List.getElem?_eq_getElem hi]; rfl
    have h2 := hq.2
    rw [hs, firstL] at h2
    refine ⟨es.getD i 0, he, ?_⟩
    by_cases h0 : es.getD i 0 = 0
    ·rw [if_pos h0] at h2
     exact .inl ⟨h0, Below.then hq.1 hb, h2⟩
    ·rw [if_neg h0] at h2
     exact .inr ⟨h0, h2, Below.then hq.1 hb⟩
   ent := hent
   on := fun i W W' hq hb => ⟨Below.then hq.1 hb, hq.2⟩
   fin := fun W hq => ⟨by rw [← hq.2, List.drop_eq_nil_of_le (Nat.le_refl _)]; rfl, hq.1⟩ }
 exact (first_any g es.length K C _ _ D hn V ⟨Below.refl _ _, rfl⟩).mono fun e W' ⟨x, he, hx, hb⟩ => ⟨by rw [he, hx], hb⟩
end Go.Proofs.YtpjaajeojiaeiaaGreatDoor
