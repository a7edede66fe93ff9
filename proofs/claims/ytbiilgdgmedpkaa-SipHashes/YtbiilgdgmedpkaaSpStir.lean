/- The four numbers: stir. -/
import Derived.Test.YtbiilgdgmedpkaaSpNum
namespace Go.Proofs.Ytbiilgdgmedpkaa
open Go.ChangeShapes Go.WideShapes Go.ChangeAt Go.RowKit Sp

/-- Numbers as cells. -/
def cel (xs : List Sp.B) : List Value := xs.map fun x => .int .u64 (nn x)
theorem cel_get {xs : List Sp.B} {i : Nat} {x : Sp.B} (h : xs[i]? = some x) : (cel xs)[i]? = some (.int .u64 (nn x)) := by unfold cel; rw [List.getElem?_map, h]; rfl
theorem cel_set (xs : List Sp.B) (i : Nat) (x : Sp.B) : (cel xs).set i (.int .u64 (nn x)) = cel (xs.set i x) := by unfold cel; rw [List.map_set]
theorem lt_of_get {xs : List Sp.B} {i : Nat} {x : Sp.B} (h : xs[i]? = some x) : i < xs.length := (List.getElem?_eq_some_iff.1 h).1
theorem But.drew {S : List Nat} {a b : World} (h : But S a b) : But S a b.drew := ⟨h.os, h.tape, h.output, h.size, h.block⟩
theorem But.on {S : List Nat} {a b c : World} (h : But S a b) (k : Below b.heap.size b c) : But S a c := h.trans (But.of k)

set_option maxHeartbeats 1000000 in
theorem stir_any (p a b : Nat) (c : Int) (k : Nat) (xs : List Sp.B) (x y : Sp.B) (w : World) (hr : Row w p (cel xs)) (hx : xs[a]? = some x) (hy : xs[b]? = some y) (hab : a ≠ b) (ha : a < 4) (hb : b < 4) (hT : Turn c k) :
    Calls Try.prog 23 #[.pointer (some ⟨p, 0, none⟩), .int .i64 a, .int .i64 b, .int .i64 c] w fun e w' =>
      e = .returned (.tuple #[]) ∧ Row w' p (cel ((xs.set a (x + y)).set b (rotl y k ^^^ (x + y)))) ∧ But [p] w w' := by
  have hs := wrap_add x y
  generalize hz : x + y = z at *
  clear hz
  have hq := xor_nn (rotl y k) z
  generalize rotl y k ^^^ z = q at *
  have na : ¬ (4 : Int) ≤ (a : Int) := by omega
  have nb : ¬ (4 : Int) ≤ (b : Int) := by omega
  have hlt := hr.lt
  have h0 : Row w.drew p (cel xs) := hr
  have hB0 : But [p] w w.drew := (But.of (Below.refl _ w)).drew
  clear hr
  go_enter Try.func23, Try.ntmps23
  go_wp2_with fail
  refine wp_region_grow_store (by kernel_rfl) [.pointer (some ⟨p, 0, none⟩), .int .i64 a, .pointer (some ⟨p, 0, none⟩), .pointer (some ⟨p, a, none⟩), .int .u64 (nn x), .pointer (some ⟨p, 0, none⟩), .int .i64 b, .pointer (some ⟨p, 0, none⟩), .pointer (some ⟨p, b, none⟩), .int .u64 (nn y), .int .u64 (nn z), .pointer (some ⟨p, 0, none⟩), .pointer (some ⟨p, a, none⟩), undef] 13 (fun v => v.setCell ⟨p, a, none⟩ (.int .u64 (nn z))) (by kernel_rfl) (by decide) rfl ?op ?store ?fin
  case op =>
    intro i o bx u ho hne hbel hS
    match i, ho with
    | 0, ho =>
      obtain rfl := Option.some.inj ho
      have d0 : bx.tmps.getD 0 undef = .pointer (some ⟨p, 0, none⟩) := hS.base 0 (by kernel_rfl)
      refine .inl ⟨rfl, ends_value (c := .pointer (some ⟨p, 0, none⟩)) ?_⟩
      simp [execOp, Act.eval, d0]
    | 1, ho =>
      obtain rfl := Option.some.inj ho
      have d1 : bx.tmps.getD 1 undef = .int .i64 a := hS.base 1 (by kernel_rfl)
      refine .inl ⟨rfl, ends_value (c := .int .i64 a) ?_⟩
      simp [execOp, Act.eval, d1]
    | 2, ho =>
      obtain rfl := Option.some.inj ho
      have d8 : bx.tmps.getD 8 undef = .pointer (some ⟨p, 0, none⟩) := hS.dep 0 8 (by kernel_rfl) (by kernel_rfl)
      refine .inl ⟨rfl, ends_value (c := .pointer (some ⟨p, 0, none⟩)) ?_⟩
      simp [execOp, Act.eval, d8]
    | 3, ho =>
      obtain rfl := Option.some.inj ho
      have d10 : bx.tmps.getD 10 undef = .pointer (some ⟨p, 0, none⟩) := hS.dep 2 10 (by kernel_rfl) (by kernel_rfl)
      have d9 : bx.tmps.getD 9 undef = .int .i64 a := hS.dep 1 9 (by kernel_rfl) (by kernel_rfl)
      refine .inl ⟨rfl, ends_value (c := .pointer (some ⟨p, a, none⟩)) ?_⟩
      simp [Act.eval, d10, d9, go_sem, na]
    | 4, ho =>
      obtain rfl := Option.some.inj ho
      have d11 : bx.tmps.getD 11 undef = .pointer (some ⟨p, a, none⟩) := hS.dep 3 11 (by kernel_rfl) (by kernel_rfl)
      have hl := (h0.on (hbel (by kernel_rfl)) hlt).cell a _ (cel_get hx)
      refine .inl ⟨rfl, ends_value (c := .int .u64 (nn x)) ?_⟩
      simp [Act.eval, d11, go_sem, hl]
    | 5, ho =>
      obtain rfl := Option.some.inj ho
      have d0 : bx.tmps.getD 0 undef = .pointer (some ⟨p, 0, none⟩) := hS.base 0 (by kernel_rfl)
      refine .inl ⟨rfl, ends_value (c := .pointer (some ⟨p, 0, none⟩)) ?_⟩
      simp [execOp, Act.eval, d0]
    | 6, ho =>
      obtain rfl := Option.some.inj ho
      have d2 : bx.tmps.getD 2 undef = .int .i64 b := hS.base 2 (by kernel_rfl)
      refine .inl ⟨rfl, ends_value (c := .int .i64 b) ?_⟩
      simp [execOp, Act.eval, d2]
    | 7, ho =>
      obtain rfl := Option.some.inj ho
      have d13 : bx.tmps.getD 13 undef = .pointer (some ⟨p, 0, none⟩) := hS.dep 5 13 (by kernel_rfl) (by kernel_rfl)
      refine .inl ⟨rfl, ends_value (c := .pointer (some ⟨p, 0, none⟩)) ?_⟩
      simp [execOp, Act.eval, d13]
    | 8, ho =>
      obtain rfl := Option.some.inj ho
      have d15 : bx.tmps.getD 15 undef = .pointer (some ⟨p, 0, none⟩) := hS.dep 7 15 (by kernel_rfl) (by kernel_rfl)
      have d14 : bx.tmps.getD 14 undef = .int .i64 b := hS.dep 6 14 (by kernel_rfl) (by kernel_rfl)
      refine .inl ⟨rfl, ends_value (c := .pointer (some ⟨p, b, none⟩)) ?_⟩
      simp [Act.eval, d15, d14, go_sem, nb]
    | 9, ho =>
      obtain rfl := Option.some.inj ho
      have d16 : bx.tmps.getD 16 undef = .pointer (some ⟨p, b, none⟩) := hS.dep 8 16 (by kernel_rfl) (by kernel_rfl)
      have hl := (h0.on (hbel (by kernel_rfl)) hlt).cell b _ (cel_get hy)
      refine .inl ⟨rfl, ends_value (c := .int .u64 (nn y)) ?_⟩
      simp [Act.eval, d16, go_sem, hl]
    | 10, ho =>
      obtain rfl := Option.some.inj ho
      have d12 : bx.tmps.getD 12 undef = .int .u64 (nn x) := hS.dep 4 12 (by kernel_rfl) (by kernel_rfl)
      have d17 : bx.tmps.getD 17 undef = .int .u64 (nn y) := hS.dep 9 17 (by kernel_rfl) (by kernel_rfl)
      refine .inl ⟨rfl, ends_value (c := .int .u64 (nn z)) ?_⟩
      simp [Act.eval, d12, d17, go_sem, hs]
    | 11, ho =>
      obtain rfl := Option.some.inj ho
      have d8 : bx.tmps.getD 8 undef = .pointer (some ⟨p, 0, none⟩) := hS.dep 0 8 (by kernel_rfl) (by kernel_rfl)
      refine .inl ⟨rfl, ends_value (c := .pointer (some ⟨p, 0, none⟩)) ?_⟩
      simp [execOp, Act.eval, d8]
    | 12, ho =>
      obtain rfl := Option.some.inj ho
      have d19 : bx.tmps.getD 19 undef = .pointer (some ⟨p, 0, none⟩) := hS.dep 11 19 (by kernel_rfl) (by kernel_rfl)
      have d9 : bx.tmps.getD 9 undef = .int .i64 a := hS.dep 1 9 (by kernel_rfl) (by kernel_rfl)
      refine .inl ⟨rfl, ends_value (c := .pointer (some ⟨p, a, none⟩)) ?_⟩
      simp [Act.eval, d19, d9, go_sem, na]
    | 13, _ => exact absurd rfl hne
    | n + 14, ho => exact absurd ho (by simp)
  case store =>
    intro o bx u ho hbel hS
    obtain rfl := Option.some.inj ho
    have d20 : bx.tmps.getD 20 undef = .pointer (some ⟨p, a, none⟩) := hS.dep 12 20 (by kernel_rfl) (by kernel_rfl)
    have d18 : bx.tmps.getD 18 undef = .int .u64 (nn z) := hS.dep 10 18 (by kernel_rfl) (by kernel_rfl)
    have c1 := (h0.on hbel hlt).cell a _ (cel_get hx)
    have c2 := (h0.on hbel hlt).free a
    refine ⟨rfl, ?_⟩
    simp [Act.eval, d20, d18, go_sem, c1, c2]
  case fin =>
    intro u hbel
    simp [putAll, dstAt, Act.put]
    have h1 : Row (u.setCell ⟨p, a, none⟩ (.int .u64 (nn z))) p (cel (xs.set a z)) := by rw [← cel_set]; exact (h0.on hbel hlt).set a _
    have hB1 : But [p] w (u.setCell ⟨p, a, none⟩ (.int .u64 (nn z))) := (hB0.on hbel).setCell (List.mem_singleton.2 rfl) a _
    generalize u.setCell ⟨p, a, none⟩ (.int .u64 (nn z)) = V at *
    have xa : (xs.set a z)[a]? = some z := by rw [List.getElem?_set_self (lt_of_get hx)]
    have xb : (xs.set a z)[b]? = some y := by rw [List.getElem?_set_ne hab]; exact hy
    have hlt1 := h1.lt
    have h1 : Row V.drew p (cel (xs.set a z)) := h1
    have hB1 := hB1.drew
    clear h0 hB0 hbel hs hlt hx hy
    go_wp2_with fail
    refine wp_region_grow_store (by kernel_rfl) [.pointer (some ⟨p, 0, none⟩), .int .i64 b, .pointer (some ⟨p, 0, none⟩), .int .i64 b, .pointer (some ⟨p, 0, none⟩), .pointer (some ⟨p, b, none⟩), .int .u64 (nn y), .int .i64 c, .int .u64 (nn (rotl y k)), .pointer (some ⟨p, 0, none⟩), .int .i64 a, .pointer (some ⟨p, 0, none⟩), .pointer (some ⟨p, a, none⟩), .int .u64 (nn z), .int .u64 (nn q), .pointer (some ⟨p, 0, none⟩), .pointer (some ⟨p, b, none⟩), undef] 17 (fun v => v.setCell ⟨p, b, none⟩ (.int .u64 (nn q))) (by kernel_rfl) (by decide) rfl ?op ?store ?fin
    case op =>
      intro i o bx u ho hne hbel hS
      match i, ho with
      | 0, ho =>
        obtain rfl := Option.some.inj ho
        have d0 : bx.tmps.getD 0 undef = .pointer (some ⟨p, 0, none⟩) := hS.base 0 (by kernel_rfl)
        refine .inl ⟨rfl, ends_value (c := .pointer (some ⟨p, 0, none⟩)) ?_⟩
        simp [execOp, Act.eval, d0]
      | 1, ho =>
        obtain rfl := Option.some.inj ho
        have d2 : bx.tmps.getD 2 undef = .int .i64 b := hS.base 2 (by kernel_rfl)
        refine .inl ⟨rfl, ends_value (c := .int .i64 b) ?_⟩
        simp [execOp, Act.eval, d2]
      | 2, ho =>
        obtain rfl := Option.some.inj ho
        have d0 : bx.tmps.getD 0 undef = .pointer (some ⟨p, 0, none⟩) := hS.base 0 (by kernel_rfl)
        refine .inl ⟨rfl, ends_value (c := .pointer (some ⟨p, 0, none⟩)) ?_⟩
        simp [execOp, Act.eval, d0]
      | 3, ho =>
        obtain rfl := Option.some.inj ho
        have d2 : bx.tmps.getD 2 undef = .int .i64 b := hS.base 2 (by kernel_rfl)
        refine .inl ⟨rfl, ends_value (c := .int .i64 b) ?_⟩
        simp [execOp, Act.eval, d2]
      | 4, ho =>
        obtain rfl := Option.some.inj ho
        have d23 : bx.tmps.getD 23 undef = .pointer (some ⟨p, 0, none⟩) := hS.dep 2 23 (by kernel_rfl) (by kernel_rfl)
        refine .inl ⟨rfl, ends_value (c := .pointer (some ⟨p, 0, none⟩)) ?_⟩
        simp [execOp, Act.eval, d23]
      | 5, ho =>
        obtain rfl := Option.some.inj ho
        have d25 : bx.tmps.getD 25 undef = .pointer (some ⟨p, 0, none⟩) := hS.dep 4 25 (by kernel_rfl) (by kernel_rfl)
        have d24 : bx.tmps.getD 24 undef = .int .i64 b := hS.dep 3 24 (by kernel_rfl) (by kernel_rfl)
        refine .inl ⟨rfl, ends_value (c := .pointer (some ⟨p, b, none⟩)) ?_⟩
        simp [Act.eval, d25, d24, go_sem, nb]
      | 6, ho =>
        obtain rfl := Option.some.inj ho
        have d26 : bx.tmps.getD 26 undef = .pointer (some ⟨p, b, none⟩) := hS.dep 5 26 (by kernel_rfl) (by kernel_rfl)
        have hl := (h1.on (hbel (by kernel_rfl)) hlt1).cell b _ (cel_get xb)
        refine .inl ⟨rfl, ends_value (c := .int .u64 (nn y)) ?_⟩
        simp [Act.eval, d26, go_sem, hl]
      | 7, ho =>
        obtain rfl := Option.some.inj ho
        have d3 : bx.tmps.getD 3 undef = .int .i64 c := hS.base 3 (by kernel_rfl)
        refine .inl ⟨rfl, ends_value (c := .int .i64 c) ?_⟩
        simp [execOp, Act.eval, d3]
      | 8, ho =>
        obtain rfl := Option.some.inj ho
        have d27 : bx.tmps.getD 27 undef = .int .u64 (nn y) := hS.dep 6 27 (by kernel_rfl) (by kernel_rfl)
        have d28 : bx.tmps.getD 28 undef = .int .i64 c := hS.dep 7 28 (by kernel_rfl) (by kernel_rfl)
        refine .inl ⟨rfl, ends_call (c := .int .u64 (nn (rotl y k))) (by kernel_rfl) (f := 24) (args := #[.int .u64 (nn y), .int .i64 c]) ?_ ((rot_any y c k hT u).mono fun e u' ⟨he, hw⟩ => ⟨he, by rw [hw]; exact Below.refl _ _⟩)⟩
        simp [Act.eval, d27, d28, go_sem]
      | 9, ho =>
        obtain rfl := Option.some.inj ho
        have d0 : bx.tmps.getD 0 undef = .pointer (some ⟨p, 0, none⟩) := hS.base 0 (by kernel_rfl)
        refine .inl ⟨rfl, ends_value (c := .pointer (some ⟨p, 0, none⟩)) ?_⟩
        simp [execOp, Act.eval, d0]
      | 10, ho =>
        obtain rfl := Option.some.inj ho
        have d1 : bx.tmps.getD 1 undef = .int .i64 a := hS.base 1 (by kernel_rfl)
        refine .inl ⟨rfl, ends_value (c := .int .i64 a) ?_⟩
        simp [execOp, Act.eval, d1]
      | 11, ho =>
        obtain rfl := Option.some.inj ho
        have d30 : bx.tmps.getD 30 undef = .pointer (some ⟨p, 0, none⟩) := hS.dep 9 30 (by kernel_rfl) (by kernel_rfl)
        refine .inl ⟨rfl, ends_value (c := .pointer (some ⟨p, 0, none⟩)) ?_⟩
        simp [execOp, Act.eval, d30]
      | 12, ho =>
        obtain rfl := Option.some.inj ho
        have d32 : bx.tmps.getD 32 undef = .pointer (some ⟨p, 0, none⟩) := hS.dep 11 32 (by kernel_rfl) (by kernel_rfl)
        have d31 : bx.tmps.getD 31 undef = .int .i64 a := hS.dep 10 31 (by kernel_rfl) (by kernel_rfl)
        refine .inl ⟨rfl, ends_value (c := .pointer (some ⟨p, a, none⟩)) ?_⟩
        simp [Act.eval, d32, d31, go_sem, na]
      | 13, ho =>
        obtain rfl := Option.some.inj ho
        have d33 : bx.tmps.getD 33 undef = .pointer (some ⟨p, a, none⟩) := hS.dep 12 33 (by kernel_rfl) (by kernel_rfl)
        have hl := (h1.on (hbel (by kernel_rfl)) hlt1).cell a _ (cel_get xa)
        refine .inl ⟨rfl, ends_value (c := .int .u64 (nn z)) ?_⟩
        simp [Act.eval, d33, go_sem, hl]
      | 14, ho =>
        obtain rfl := Option.some.inj ho
        have d29 : bx.tmps.getD 29 undef = .int .u64 (nn (rotl y k)) := hS.dep 8 29 (by kernel_rfl) (by kernel_rfl)
        have d34 : bx.tmps.getD 34 undef = .int .u64 (nn z) := hS.dep 13 34 (by kernel_rfl) (by kernel_rfl)
        refine .inl ⟨rfl, ends_value (c := .int .u64 (nn q)) ?_⟩
        simp [Act.eval, d29, d34, go_sem, hq]
      | 15, ho =>
        obtain rfl := Option.some.inj ho
        have d21 : bx.tmps.getD 21 undef = .pointer (some ⟨p, 0, none⟩) := hS.dep 0 21 (by kernel_rfl) (by kernel_rfl)
        refine .inl ⟨rfl, ends_value (c := .pointer (some ⟨p, 0, none⟩)) ?_⟩
        simp [execOp, Act.eval, d21]
      | 16, ho =>
        obtain rfl := Option.some.inj ho
        have d36 : bx.tmps.getD 36 undef = .pointer (some ⟨p, 0, none⟩) := hS.dep 15 36 (by kernel_rfl) (by kernel_rfl)
        have d22 : bx.tmps.getD 22 undef = .int .i64 b := hS.dep 1 22 (by kernel_rfl) (by kernel_rfl)
        refine .inl ⟨rfl, ends_value (c := .pointer (some ⟨p, b, none⟩)) ?_⟩
        simp [Act.eval, d36, d22, go_sem, nb]
      | 17, _ => exact absurd rfl hne
      | n + 18, ho => exact absurd ho (by simp)
    case store =>
      intro o bx u ho hbel hS
      obtain rfl := Option.some.inj ho
      have d37 : bx.tmps.getD 37 undef = .pointer (some ⟨p, b, none⟩) := hS.dep 16 37 (by kernel_rfl) (by kernel_rfl)
      have d35 : bx.tmps.getD 35 undef = .int .u64 (nn q) := hS.dep 14 35 (by kernel_rfl) (by kernel_rfl)
      have c1 := (h1.on hbel hlt1).cell b _ (cel_get xb)
      have c2 := (h1.on hbel hlt1).free b
      refine ⟨rfl, ?_⟩
      simp [Act.eval, d37, d35, go_sem, c1, c2]
    case fin =>
      intro u hbel
      simp [putAll, dstAt, Act.put]
      go_end0
      exact ⟨rfl, by rw [← cel_set]; exact (h1.on hbel hlt1).set b _, (hB1.on hbel).setCell (List.mem_singleton.2 rfl) b _⟩
end Go.Proofs.Ytbiilgdgmedpkaa
