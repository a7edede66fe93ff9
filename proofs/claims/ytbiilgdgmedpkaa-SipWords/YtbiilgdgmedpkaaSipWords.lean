/- The law SipWords returns true for every key and every number of bytes 0, and changes nothing that was there before; no condition but the form's own. -/
import Derived.Test.YtbiilgdgmedpkaaRows
import Derived.OpenShut
import Derived.ShutString
import Derived.ChangeOld
import Derived.Below
import Derived.SizedLaws
import Derived.Test.YtbiilgdgmedpkaaSpEx
namespace Go.Proofs.Ytbiilgdgmedpkaa.sipWords
open Go.ChangeShapes Go.WideShapes Go.ChangeAt Go.RowKit
open Go.ChangeMaps (open_string shut_string)
set_option linter.unusedVariables false
set_option maxHeartbeats 1000000 in
set_option maxRecDepth 100000 in
theorem walk (w : World) (a0 : ByteArray) (a1 : Int) (z0 : a0.size ≤ 140737488355328) (w1 : (Lit.int .u8 a1).wf = true) :
    Calls Try.prog 6 #[.string a0, .int .u8 a1] w fun e w' => e = .returned (.bool true) ∧ Below w.heap.size w w' := by
  obtain ⟨x0, x1⟩ := bounds_u8 w1
  obtain ⟨n, hn⟩ : ∃ n : Nat, a1 % 41 = n := ⟨(a1 % 41).toNat, by omega⟩
  have hn1 : n ≤ 40 := by omega
  have hmk := fun W => make_run n (by omega) (by omega) W
  go_enter Try.func6, Try.ntmps6
  go_wp2_with fail
  refine (examples_any _).mono ?_
  rintro e w1' ⟨rfl, hb1⟩
  have HB := hide hb1
  clear hb1
  go_wp2_with fail
  refine (sixteen_any a0 _).mono ?_
  rintro e w2' ⟨K, rfl, hsz, hb1⟩
  have HB := hide (Below.then (unhide HB) hb1)
  have HB2' := HB
  clear hb1
  obtain ⟨Z, hZ⟩ : ∃ Z, zeroS n = Z := ⟨_, rfl⟩
  have hZs : Z.size = n := by rw [← hZ]; exact zeroS_size n
  have hZl : Z.data.toList = List.replicate n 0 := by rw [← hZ]; exact zeroS_list n
  have hcz := conv_zeros w2' n
  rw [hZ] at hcz
  have hbz : Below w2'.heap.size w2' (w2'.alloc (.cells (madeCells #[.int .u8 0] n) 5)) := (Below.refl _ _).alloc (Nat.le_refl _) _
  have ha := fun (wx : World) => run_string_add_sum (P := Try.prog) (w := wx) Z ⟨#[116, 97, 105, 108]⟩ (by rw [hZs]; show _ + 4 ≤ _; omega)
  have hTs : (Z ++ ⟨#[116, 97, 105, 108]⟩ : ByteArray).size = n + 4 := by rw [ByteArray.size_append, hZs]; rfl
  have HTl : Hid ((Z ++ ⟨#[116, 97, 105, 108]⟩ : ByteArray).data.toList.take n = Z.data.toList) := by
    show _ = _
    rw [ByteArray.data_append, Array.toList_append, List.take_append_of_le_length (by rw [Sp.len_eq, hZs]; exact Nat.le_refl _), List.take_of_length_le (by rw [Sp.len_eq, hZs]; exact Nat.le_refl _)]
  obtain ⟨c, WB, hc, hcb, hbb, hbts⟩ := conv_bytes (Z ++ ⟨#[116, 97, 105, 108]⟩ : ByteArray) (w2'.alloc (.cells (madeCells #[.int .u8 0] n) 5))
  generalize (Z ++ ⟨#[116, 97, 105, 108]⟩ : ByteArray) = T at *
  have hTi : (T.size : Int) = (n : Int) + 4 := by omega
  have hci : (n : Int) ≤ c := by omega
  have hbb := Below.then hbz hbb
  have HB := hide (Below.then (unhide HB) hbb)
  have hgg : w2'.heap.size ≤ (w2'.alloc (.cells (madeCells #[.int .u8 0] n) 5)).heap.size := hbz.size
  have hZn : (Z.size : Int) = n := by omega
  have h0 : (0 : Int) < T.size := by omega
  obtain ⟨x, hx⟩ : ∃ x, Sp.hashV K Z = x := ⟨_, rfl⟩
  have H1 : Hid (∀ u, Calls Try.prog 10 #[.string K, .string Z] u fun e u' => e = .returned (.tuple #[.int .u64 (Sp.nn x), .bool true]) ∧ Below u.heap.size u u') := fun u => by
    have h := hash_any K Z u (by unfold maxLen; omega)
    rw [hx, hsz] at h
    exact h
  have HTX : Hid (∀ W g, Bts W g T.data.toList → (convert 31 9 (.slice (some ⟨g, 0, none⟩) n c)).run Try.prog W = .ok (.string Z) W) := fun W g h => by
    have e := text_of (n := n) (h.take n) (by rw [List.length_take, Sp.len_eq, hTs]; omega) c
    rw [unhide HTl] at e
    exact e
  have HT := hide hbts
  generalize hg : (w2'.alloc (.cells (madeCells #[.int .u8 0] n) 5)).heap.size = g at *
  have HG : Hid (w.heap.size ≤ g) := Nat.le_trans (unhide HB2').size hgg
  clear hbts hbz hbb hgg hx hsz hZ hZl HTl
  go_wp2_with fail
  refine (unhide H1 _).mono ?_
  rintro e w3' ⟨rfl, hb1⟩
  have hbt := (unhide HT).on hb1
  have hcv := unhide HTX _ _ hbt
  have HT := hide hbt
  have HB := hide (Below.then (unhide HB) hb1)
  clear hb1 hbt
  go_wp2_with fail
  refine (unhide H1 _).mono ?_
  rintro e w4' ⟨rfl, hb1⟩
  have hbt := (unhide HT).on hb1
  have hc0 := (hbt 0 (by rw [Sp.len_eq]; omega)).1
  have hf0 := (hbt 0 (by rw [Sp.len_eq]; omega)).2
  have HB := hide ((Below.then (unhide HB) hb1).setCell (p := ⟨g, 0, none⟩) (unhide HG) (.int .u8 9))
  clear hb1 hcv
  go_wp2_with fail
  refine (unhide H1 _).mono ?_
  rintro e w5' ⟨rfl, hb1⟩
  have HB := hide (Below.then (unhide HB) hb1)
  clear hb1
  go_wp2_with fail
  go_ret
  exact ⟨rfl, unhide HB⟩

theorem own : ownKnob Try.prog.godebug = none := by kernel_rfl
set_option maxRecDepth 100000 in
theorem lifted (os : Os) (started : os.Started) (H : Type) (enc : TypeId × Value → H) :
    ReturnsInHanded {} Try.checked os 6 .any (Rows.sipWordsSpec.pre6 enc Try.prog Try.f6 Rows.sipWordsRow.domain false) (Rows.sipWordsSpec.post enc Try.prog Try.f6 false true false false) := by
  refine returnsInHanded_of_change_sized (C := Try.checked) own started (by kernel_rfl) Try.func6
    (ChangeSpec.witness6 (enc := enc) (C := Try.checked) false ⟨#[], #[.string ByteArray.empty, .int .u8 0], []⟩ 8 (by kernel_rfl) (by kernel_rfl) (by kernel_rfl) (by kernel_rfl)) ?_
  intro W base args ds gs before hval0 hW hcnd hsz _
  have hval : ∀ (j : Nat) t v, Try.f6.params[j]? = some t → args[j]? = some v → Value.okWide Try.prog W .any base t v := hval0
  have hW' := hW
  obtain ⟨p, q, hA0, hV, rfl, hfz, hnd⟩ := hW
  have hA : DataW.TrodAll enc Try.prog W 0 (fun _ => true) true Try.f6.params.toList args.toList ds p := hA0
  rw [Try.params6] at hA hval
  obtain ⟨v0, vs0, d0, ds0, p0, q0, hargs, rfl, rfl, h0, r0⟩ := trodAll_cons hA
  obtain ⟨v1, vs1, d1, ds1, p1, q1, rfl, rfl, rfl, h1, r1⟩ := trodAll_cons r0
  obtain ⟨rfl, rfl, rfl⟩ := trodAll_nil r1
  obtain rfl : args = #[v0, v1] := by cases args; simp_all
  obtain ⟨rfl, rfl⟩ := trodVars_none hV
  obtain ⟨a0, rfl, rfl, rfl, w0⟩ := open_string Try.underlying9 (hval 0 9 v0 rfl rfl) h0
  obtain ⟨a1, rfl, rfl, rfl, w1⟩ := open_int Try.underlying5 (hval 1 5 v1 rfl rfl) h1
  clear hA0 hval0
  simp only [List.append_nil] at hW'
  have z0 : a0.size ≤ 140737488355328 := by
    have hq : a0.data.toList.length ≤ reachBytes := sized_string hsz (j := 0) (t := 9) rfl rfl
    have e : a0.data.toList.length = a0.size := by rw [Array.length_toList]; rfl
    rw [e] at hq
    exact Nat.le_trans hq (Nat.le_of_lt reachBytes_lt)
  refine (walk W a0 a1 z0 w1).mono fun e W' ⟨he, bel⟩ => ?_
  subst he
  exact ⟨_, rfl, _, _, _, [], _, [], hW', (trodAll_cons_mk (shut_bool Try.underlying4 _) trodAll_mk0), (trodAll_cons_mk (shut_string Try.underlying9 w0) (trodAll_cons_mk (shut_int Try.underlying5 w1) trodAll_mk0)), rfl, bel.frame _, fun h => by cases h⟩

theorem over : Rows.sipWordsRow.holds Try.pinned (OpenSpec.ofChange Rows.sipWordsSpec) :=
  OpenClaim.holds_of_wide 6 Try.f6 rfl rfl rfl rfl rfl rfl rfl ⟨rfl, rfl, rfl, rfl, rfl⟩ rfl rfl rfl rfl rfl (by kernel_rfl) Try.func6 (by kernel_rfl)
    (of_decide_eq_true (by kernel_rfl)) (by unfold Func.isWrapper; first | (rw [if_pos (by decide +kernel)]; kernel_rfl) | (rw [if_neg (by decide +kernel)]; exact ⟨rfl, rfl⟩))
    (fun os started H enc _ => lifted os started H enc)

theorem proved : Rows.SipWordsSaid := over
#print axioms proved
end Go.Proofs.Ytbiilgdgmedpkaa.sipWords
