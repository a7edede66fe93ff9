/- What places, Place of package pseudo, and Place of the reference compute: where the check stands, by a map of two entries. -/
import Derived.Test.YtmeafeomfblncaaPsBase
import Derived.Maps.Own
import Derived.Maps.OwnSet
namespace Go.Proofs.Ytmeafeomfblncaa
open Go.ChangeShapes Go.WideShapes Go.ChangeAt Go.RowKit Go.Maps

theorem lawI : Keyed Try.prog 3 := int_keyed Try.underlying3
theorem zeroI (w : World) : (zeroValue 3).run Try.prog w = .ok (.int .i64 0) w := by kernel_rfl

/-- The map's datum. -/
def plD : DataW Unit := ((DataW.map []).put (.int .i64 6) (.lit (.int .i64 16))).put (.int .i64 17) (.lit (.int .i64 6))
/-- Where the check stands, and whether it stands anywhere. -/
def plcB (p : Int) : Bool := (p == 6) || (p == 17)
def plc (p : Int) : Int := if p = 6 then 16 else if p = 17 then 6 else 0
theorem plD_eq : plD = .map [(.int .i64 6, .lit (.int .i64 16)), (.int .i64 17, .lit (.int .i64 6))] := rfl
theorem plD_has (p : Int) : Maps.has plD (.int .i64 p) = plcB p := by
  rw [plD_eq, Maps.has_eq]
  unfold plcB
  simp [Lit.sameKey, eq_comm, Bool.beq_eq_decide_eq]
theorem plD_at (p : Int) : plD.atKey (.int .i64 p) (.lit (.int .i64 0)) = .lit (.int .i64 (plc p)) := by
  rw [plD_eq]
  unfold plc DataW.atKey
  by_cases h6 : p = 6
  · subst h6; rfl
  · by_cases h17 : p = 17
    · subst h17; rfl
    · have e6 : ¬ (6 = p) := fun h => h6 h.symm
      have e17 : ¬ (17 = p) := fun h => h17 h.symm
      simp [Lit.sameKey, h6, h17, e6, e17]

set_option maxHeartbeats 1000000 in
theorem places_any (w : World) :
    Calls Try.prog 27 #[] w fun e w' => e = .returned (.map (some w.heap.size)) ∧ w'.ownsMap Try.prog 3 (plainElem Try.prog 3) w.heap.size 2 plD ∧ Below w.heap.size w w' := by
  have hmm := @run_makeMap Try.prog
  have h0 := World.ownsMap_made w Try.prog 3 (plainElem (H := Unit) Try.prog 3)
  have hb0 := (Below.refl w.heap.size w).alloc (Nat.le_refl _) (.map #[] 0)
  obtain ⟨w1, r1, o1, g1⟩ := h0.update lawI Try.underlying48 (by decide) (key := .int .i64 6) (val := .int .i64 16) (keyOf_int_mk Try.underlying3 (by decide)) (plainElem_int Try.underlying3 (by decide))
  obtain ⟨w2, r2, o2, g2⟩ := o1.update lawI Try.underlying48 (by decide) (key := .int .i64 17) (val := .int .i64 6) (keyOf_int_mk Try.underlying3 (by decide)) (plainElem_int Try.underlying3 (by decide))
  have HB := hide ((hb0.grown g1 hb0.size (fun j hj => by cases hj; exact Nat.le_refl _)).grown g2 (hb0.grown g1 hb0.size (fun j hj => by cases hj; exact Nat.le_refl _)).size (fun j hj => by cases hj; exact Nat.le_refl _))
  have HO := hide o2
  clear h0 hb0 o1 g1 o2 g2
  go_enter Try.func27, Try.ntmps27
  go_wp2
  go_ret
  exact ⟨rfl, unhide HO, unhide HB⟩

set_option maxHeartbeats 1000000 in
theorem place_any (p : Int) (w : World) (hp : -9223372036854775808 ≤ p ∧ p ≤ 9223372036854775807) :
    Calls Try.prog 14 #[.int .i64 p] w fun e w' => e = .returned (.tuple #[.int .i64 (plc p), .bool (plcB p)]) ∧ Below w.heap.size w w' := by
  have HK := hide (keyOf_int_mk Try.underlying3 (WalkArith.wf_i64 hp))
  go_enter Try.func14, Try.ntmps14
  go_wp2_with fail
  refine (places_any _).mono ?_
  rintro e w1 ⟨rfl, hown, hb⟩
  have HB := hide hb
  clear hb
  go_wp2_with (at_lookup; refine wpList_lookup_own_ok_int _ rfl _ _ 48 rfl 3 3 .i64 lawI Try.underlying48 Try.underlying3 (zeroI _) w.heap.size 2 plD rfl hown _ _ rfl (unhide HK) ?_; intro c hat hwc)
  go_ret2
  have e1 : c = plc p := by rw [plD_at] at hat; injection hat with h; injection h with h1 h2; exact h2.symm
  exact ⟨ret_kb e1 (plD_has p), unhide HB⟩

set_option maxHeartbeats 1000000 in
theorem rplace_any (p : Int) (w : World) :
    Calls Try.prog 15 #[.int .i64 p] w fun e w' => e = .returned (.tuple #[.int .i64 (plc p), .bool (plcB p)]) ∧ w' = w := by
  have HR : Hid (plcB p = ((p == 6) || (p == 17))) := rfl
  have HN : Hid (plc p = if p = 6 then 16 else if p = 17 then 6 else 0) := rfl
  generalize plcB p = R at *
  generalize plc p = n at *
  cases h6 : p == 6 with
  | true =>
    have e : p = 6 := by simpa using h6
    rw [h6] at HR
    rw [if_pos e] at HN
    clear e
    go_enter Try.func15, Try.ntmps15
    go_wp2
    go_ret2
    exact ⟨ret_kb HN.out.symm HR.out.symm, rfl⟩
  | false =>
    have e : ¬ p = 6 := by simpa using h6
    rw [h6] at HR
    rw [if_neg e] at HN
    clear e
    cases h17 : p == 17 with
    | true =>
      have e : p = 17 := by simpa using h17
      rw [h17] at HR
      rw [if_pos e] at HN
      clear e
      go_enter Try.func15, Try.ntmps15
      go_wp2
      go_ret2
      exact ⟨ret_kb HN.out.symm HR.out.symm, rfl⟩
    | false =>
      have e : ¬ p = 17 := by simpa using h17
      rw [h17] at HR
      rw [if_neg e] at HN
      clear e
      go_enter Try.func15, Try.ntmps15
      go_wp2
      go_ret2
      exact ⟨ret_kb HN.out.symm HR.out.symm, rfl⟩
end Go.Proofs.Ytmeafeomfblncaa
