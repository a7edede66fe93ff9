/- What Right computes: each field has room, and the options are right. -/
import Derived.Test.YtfppjpcolohmfaaIpHd
import Derived.Test.YtfppjpcolohmfaaIpSet
namespace Go.Proofs.Ytfppjpcolohmfaa
open Go.ChangeShapes Go.WideShapes Go.ChangeAt Go.RowKit Go.Shelf
attribute [local go_sem] Oper.semAt_some

def inB (n m : Int) : Bool := decide (0 ≤ n) && decide (n ≤ m)
def optB (o : ByteArray) : Bool := decide (o.size ≤ 40) && decide (o.size % 4 = 0) && optsOk o.data.toList
def rightB (h : Hd) : Bool := inB h.tos 255 && inB h.ttl 255 && inB h.proto 255 && inB h.id 65535 && inB h.flags 7 && inB h.frag 8191 && optB h.opts
theorem inB_iff (n m : Int) : inB n m = true ↔ 0 ≤ n ∧ n ≤ m := by unfold inB; simp
/-- Room, as the loop finds it. -/
theorem fits_iff (h : Hd) (hw : h.Wf) (ho : h.opts.size ≤ 40) : Fits12 (hfix h 0 0) ↔ (inB h.tos 255 && inB h.ttl 255 && inB h.proto 255 && inB h.id 65535 && inB h.flags 7 && inB h.frag 8191) = true := by
  have hs := hw.src
  have hd := hw.dst
  simp only [Bool.and_eq_true, inB_iff]
  constructor
  · intro hf
    have f2 := fit2 hf
    have f4 := fit4 hf
    have f5 := fit5 hf
    have f6 := fit6 hf
    have f7 := fit7 hf
    have f8 := fit8 hf
    simp only [hfix, fx] at f2 f4 f5 f6 f7 f8
    omega
  · rintro ⟨⟨⟨⟨⟨t1, t2⟩, t3⟩, t4⟩, t5⟩, t6⟩ k hk
    have hks : k = 0 ∨ k = 1 ∨ k = 2 ∨ k = 3 ∨ k = 4 ∨ k = 5 ∨ k = 6 ∨ k = 7 ∨ k = 8 ∨ k = 9 ∨ k = 10 ∨ k = 11 := by omega
    rcases hks with rfl | rfl | rfl | rfl | rfl | rfl | rfl | rfl | rfl | rfl | rfl | rfl <;> simp [hfix, fx, fbits] <;> omega

/-- What lies behind k fields that have room. -/
structure RightI (w : World) (bf : Nat) (F : Nat → Int) (k : Nat) (W : World) : Prop where
  rc : W.cell? ⟨w.heap.size + 1, 0, none⟩ = some (.bool false)
  rf : W.frozen? ⟨w.heap.size + 1, 0, none⟩ = false
  fix : FixAt W bf F
  below : Below w.heap.size w W
  fits : ∀ j, j < k → 0 ≤ F j ∧ F j < 2 ^ (fbits j).toNat
theorem RightI.on {w : World} {bf : Nat} {F : Nat → Int} {k B : Nat} {W W' : World} (h : RightI w bf F k W) (hb : Below B W W') (hB : w.heap.size + 2 ≤ B) (hbf : bf < B) : RightI w bf F k W' :=
  ⟨(hb.cell (p := ⟨w.heap.size + 1, 0, none⟩) (by simp; omega)).trans h.rc, (hb.frozen (p := ⟨w.heap.size + 1, 0, none⟩) (by simp; omega)).trans h.rf, h.fix.on hb hbf, h.below.trans (hb.mono (by omega)), h.fits⟩
/-- What lies where one had none. -/
structure RightX (w : World) (F : Nat → Int) (W : World) : Prop where
  rc : W.cell? ⟨w.heap.size + 1, 0, none⟩ = some (.bool false)
  below : Below w.heap.size w W
  bad : ¬ Fits12 F
theorem RightX.on {w : World} {F : Nat → Int} {B : Nat} {W W' : World} (h : RightX w F W) (hb : Below B W W') (hB : w.heap.size + 2 ≤ B) : RightX w F W' :=
  ⟨(hb.cell (p := ⟨w.heap.size + 1, 0, none⟩) (by simp; omega)).trans h.rc, h.below.trans (hb.mono (by omega)), h.bad⟩

theorem fixAt_new (w : World) (F : Nat → Int) (t : TypeId) : FixAt (w.alloc (.cells #[.int .i64 (F 0), .int .i64 (F 1), .int .i64 (F 2), .int .i64 (F 3), .int .i64 (F 4), .int .i64 (F 5), .int .i64 (F 6), .int .i64 (F 7), .int .i64 (F 8), .int .i64 (F 9), .int .i64 (F 10), .int .i64 (F 11)] t)) w.heap.size F := by
  intro k hk
  have hks : k = 0 ∨ k = 1 ∨ k = 2 ∨ k = 3 ∨ k = 4 ∨ k = 5 ∨ k = 6 ∨ k = 7 ∨ k = 8 ∨ k = 9 ∨ k = 10 ∨ k = 11 := by omega
  rcases hks with rfl | rfl | rfl | rfl | rfl | rfl | rfl | rfl | rfl | rfl | rfl | rfl <;> simp [go_sem]

structure NewB (w W : World) : Prop where
  c : W.cell? ⟨w.heap.size + 1, 0, none⟩ = some (.bool false)
  f : W.frozen? ⟨w.heap.size + 1, 0, none⟩ = false
  b : Below w.heap.size w W

set_option maxRecDepth 100000 in
set_option maxHeartbeats 4000000 in
theorem right_any (h : Hd) (w : World) (hw : h.Wf) :
    Calls Try.prog 14 #[h.val] w fun e w' => e = .returned (.bool (rightB h)) ∧ Below w.heap.size w w' := by
  refine (callsIn_wide (n := 0)).1 ?_
  refine callsIn_of_wp_marks Try.func14 rfl trivial ?_ rfl
  simp only [Try.ntmps14, List.size_toArray, List.length_cons, List.length_nil, Nat.reduceAdd, Nat.reduceSub, Array.replicate_succ, Array.replicate_zero, List.push_toArray, List.append_toArray, List.nil_append, List.cons_append]
  have hos := hw.opts
  have HW := hide hw
  have hsz9 : (h.opts.size : Int) ≤ 140737488355328 := by omega
  by_cases h40 : h.opts.size ≤ 40
  case neg =>
    have HR : Hid (rightB h = false) := by show _ = _; unfold rightB optB; rw [decide_eq_false h40]; simp
    have hd : decide (40 < (h.opts.size : Int)) = true := by simp; omega
    clear hw
    gi_wp2
    refine ⟨trivial, ?_⟩
    gi_wp2
    refine ⟨.bool false, ?_, by rw [HR.out], ?_⟩
    · simp [results, Try.results14, go_sem]
    · (repeat first | exact Below.refl _ _ | refine Below.drew ?_ | refine Below.alloc ?_ (by simp <;> omega) _ | refine Below.setCell ?_ (by simp <;> omega) _)
  case pos =>
    have hd40 : decide (40 < (h.opts.size : Int)) = false := by simp; omega
    by_cases h4 : h.opts.size % 4 = 0
    case neg =>
      have HR : Hid (rightB h = false) := by show _ = _; unfold rightB optB; rw [decide_eq_false h4]; simp
      have hd : ((h.opts.size : Int) % 4 != 0) = true := by simp; omega
      clear hw
      gi_wp2
      refine ⟨trivial, ?_⟩
      gi_wp2
      refine ⟨.bool false, ?_, by rw [HR.out], ?_⟩
      · simp [results, Try.results14, go_sem]
      · (repeat first | exact Below.refl _ _ | refine Below.drew ?_ | refine Below.alloc ?_ (by simp <;> omega) _ | refine Below.setCell ?_ (by simp <;> omega) _)
    case pos =>
      have hd4 : ((h.opts.size : Int) % 4 != 0) = false := by simp; omega
      cases ho : optsOk h.opts.data.toList with
      | false =>
        have HR : Hid (rightB h = false) := by show _ = _; unfold rightB optB; rw [ho]; simp
        clear hw
        gi_wp2
        refine ⟨trivial, rfl, (callsIn_wide.2 (optsRight_any _ _ hos)).mono ?_⟩
        rintro e w1 ⟨rfl, rfl⟩
        rw [ho]
        gi_wp2
        refine ⟨.bool false, ?_, by rw [HR.out], ?_⟩
        · simp [results, Try.results14, go_sem]
        · (repeat first | exact Below.refl _ _ | refine Below.drew ?_ | refine Below.alloc ?_ (by simp <;> omega) _ | refine Below.setCell ?_ (by simp <;> omega) _)
      | true =>
        have HR : Hid (rightB h = true ↔ Fits12 (hfix h 0 0)) := by
          show _ ↔ _
          rw [fits_iff h hw h40]; unfold rightB optB; rw [ho, decide_eq_true h40, decide_eq_true h4]; simp
        clear hw
        gi_wp2
        refine ⟨trivial, rfl, (callsIn_wide.2 (optsRight_any _ _ hos)).mono ?_⟩
        rintro e w1 ⟨rfl, rfl⟩
        rw [ho]
        gi_wp2
        refine ⟨trivial, rfl, (callsIn_wide.2 (fixedOf_any h _ (unhide HW))).mono ?_⟩
        rintro e w1 ⟨rfl, hb1⟩
        gi_wp2
        refine ⟨trivial, rfl, (callsIn_wide.2 (fields_any _ _)).mono ?_⟩
        rintro e w2 ⟨rfl, rfl⟩
        gi_wp2
        have hsz1 : w.heap.size + 2 ≤ w1.heap.size := by have := hb1.size; simp at this; omega
        have hnr : NewB w w1 := by
          have e1 : ((w.alloc (.cells #[.int .i64 h.tos, .int .i64 h.id, .int .i64 h.flags, .int .i64 h.frag, .int .i64 h.ttl, .int .i64 h.proto, .int .u32 h.src, .int .u32 h.dst, .string h.opts] 24)).alloc (.cells #[.bool false] 4)).cell? ⟨w.heap.size + 1, 0, none⟩ = some (.bool false) := by simp [go_sem]
          have e2 : ((w.alloc (.cells #[.int .i64 h.tos, .int .i64 h.id, .int .i64 h.flags, .int .i64 h.frag, .int .i64 h.ttl, .int .i64 h.proto, .int .u32 h.src, .int .u32 h.dst, .string h.opts] 24)).alloc (.cells #[.bool false] 4)).frozen? ⟨w.heap.size + 1, 0, none⟩ = false := by simp [go_sem]
          refine ⟨(hb1.cell (p := ⟨w.heap.size + 1, 0, none⟩) (by simp)).trans e1, (hb1.frozen (p := ⟨w.heap.size + 1, 0, none⟩) (by simp)).trans e2, ?_⟩
          exact (((Below.refl w.heap.size w).alloc (Nat.le_refl _) _).alloc (by simp) _).trans (hb1.mono (by simp; omega))
        obtain ⟨nr1, nr2, nr3⟩ := hnr
        generalize hF : hfix h 0 0 = F at *
        obtain ⟨V0, hV0⟩ : ∃ V0, (w1.alloc (.cells #[.int .i64 (F 0), .int .i64 (F 1), .int .i64 (F 2), .int .i64 (F 3), .int .i64 (F 4), .int .i64 (F 5), .int .i64 (F 6), .int .i64 (F 7), .int .i64 (F 8), .int .i64 (F 9), .int .i64 (F 10), .int .i64 (F 11)] 55)).alloc (.cells #[.pointer (some ⟨w1.heap.size, 0, none⟩)] 78) = V0 := ⟨_, rfl⟩
        have hsz : V0.heap.size = w1.heap.size + 2 := by rw [← hV0]; simp
        have hB0 : Below w1.heap.size w1 V0 := by rw [← hV0]; exact ((Below.refl _ w1).alloc (Nat.le_refl _) _).alloc (by simp) _
        have hfx : FixAt V0 w1.heap.size F := by rw [← hV0]; exact (fixAt_new w1 F _).on ((Below.refl (w1.heap.size + 1) _).alloc (by simp) _) (by omega)
        have hI0 : RightI w w1.heap.size F 0 V0 := ⟨(hB0.cell (p := ⟨w.heap.size + 1, 0, none⟩) (by simp; omega)).trans nr1, (hB0.frozen (p := ⟨w.heap.size + 1, 0, none⟩) (by simp; omega)).trans nr2, hfx, nr3.trans (hB0.mono (by omega)), fun j hj => absurd hj (Nat.not_lt_zero j)⟩
        have hsc : V0.cell? ⟨w1.heap.size + 1, 0, none⟩ = some (.pointer (some ⟨w1.heap.size, 0, none⟩)) := by rw [← hV0]; simp [go_sem]
        rw [hV0]
        clear hV0 hB0 hfx nr1 nr2 nr3 hb1
        refine wpIn_gives (gf := 43) (lb := #[.pointer (some ⟨w1.heap.size + 1, 0, none⟩)]) (enc := fun k => #[.int .i64 (fbits k), .pointer (some ⟨w1.heap.size, k, none⟩)]) (N := 12) (B0 := w1.heap.size + 1) rfl (enters_of Try.func43 (by kernel_rfl) rfl)
          (fun W1 hb1 hs1 => fields1_gives (w1.heap.size + 1) w1.heap.size (w1.heap.size + 1) W1 (by omega) ((hb1.cell (p := ⟨w1.heap.size + 1, 0, none⟩) (by simp; omega)).trans hsc)) (by omega) (fun _ => rfl)
          (RightI w w1.heap.size F) (fun c _ W => c = .ret ∧ RightX w F W) (fun k W W' h hb' => h.on hb' (by omega) (by omega)) (fun c k W W' h hb' => ⟨h.1, h.2.on hb' (by omega)⟩) hI0
          (fun k => { tmps := #[h.val, .pointer (some ⟨w.heap.size, 0, none⟩), .pointer (some ⟨w.heap.size + 1, 0, none⟩), .pointer (some ⟨w1.heap.size, 0, none⟩), .int .i64 (fbits k), .pointer (some ⟨w1.heap.size, k, none⟩), .pointer (some ⟨w.heap.size, 8, none⟩), .string h.opts, .int .i64 h.opts.size, .bool false, .bool false, .pointer (some ⟨w.heap.size, 8, none⟩), .string h.opts, .int .i64 h.opts.size, .int .i64 (h.opts.size % 4), .bool false, .bool false, .bool false, .pointer (some ⟨w.heap.size, 8, none⟩), .string h.opts, .bool true, .bool false, .bool false, h.val, fixVal F, .func (.func 43) #[] #[.pointer (some ⟨w1.heap.size + 1, 0, none⟩)], .int .i64 (fbits k), .pointer (some ⟨w1.heap.size, k, none⟩), undef, undef, undef, undef, undef, undef, undef, undef, undef, undef, undef, undef], defers := [] })
          ?assign ?body ?done ?stop
        case assign =>
          intro l' k W K hK
          gi_wp2
          exact hK
        case done =>
          rintro W ⟨hrc, hrf, hfix, hbl, hfit⟩ hK
          have HT : Hid (rightB h = true) := by show _ = _; rw [HR.out]; exact hfit
          have HS : Hid (V0.heap.size = w1.heap.size + 2) := hsz
          clear hfix hfit hsc hI0 HR
          gi_wp2
          have hkz : (W.setCell ⟨w.heap.size + 1, 0, none⟩ (.bool true)).heap[V0.heap.size]? = some (.deferred (some [])) := (Below.heap_setCell _ _ _ _ (by simp; have := HS.out; omega)).trans hK
          refine ⟨by simp, .inl ⟨_, _, rfl, run_takeDeferred hkz, ?_⟩⟩
          have hcz : ((W.setCell ⟨w.heap.size + 1, 0, none⟩ (.bool true)).putObj V0.heap.size (.deferred none)).cell? ⟨w.heap.size + 1, 0, none⟩ = some (.bool true) := (cell_putObj (by simp; have := HS.out; omega)).trans (World.cell?_setCell_same _ _ _ hrc)
          have hbz := below_put (hbl.setCell (p := ⟨w.heap.size + 1, 0, none⟩) (by simp) (.bool true)) (l := V0.heap.size) (by have := HS.out; omega) (.deferred none)
          refine ⟨.bool true, ?_, by rw [HT.out], hbz⟩
          simp [results, Try.results14, go_sem, hcz]
        case stop =>
          rintro c k W hk ⟨rfl, hrc, hbl, hbad⟩ hK
          have HT : Hid (rightB h = false) := by
            show _ = _
            cases hx : rightB h with
            | false => rfl
            | true => exact absurd (HR.out.1 hx) hbad
          have HS : Hid (V0.heap.size = w1.heap.size + 2) := hsz
          clear hsc hI0 HR
          gi_wp2
          refine ⟨by simp, .inl ⟨_, _, rfl, run_takeDeferred hK, ?_⟩⟩
          have hcz : (W.putObj V0.heap.size (.deferred none)).cell? ⟨w.heap.size + 1, 0, none⟩ = some (.bool false) := (cell_putObj (by simp; have := HS.out; omega)).trans hrc
          have hbz := below_put hbl (l := V0.heap.size) (by have := HS.out; omega) (.deferred none)
          refine ⟨.bool false, ?_, by rw [HT.out], hbz⟩
          simp [results, Try.results14, go_sem, hcz]
        rintro l' k W hk hI
        have HI := hide hI
        obtain ⟨hrc, hrf, hfix, hbl, hfit⟩ := hI
        have hff := hfix k hk
        have HS : Hid (V0.heap.size = w1.heap.size + 2) := hsz
        have hb0 : 0 ≤ fbits k ∧ fbits k ≤ 32 := by
          have hks : k = 0 ∨ k = 1 ∨ k = 2 ∨ k = 3 ∨ k = 4 ∨ k = 5 ∨ k = 6 ∨ k = 7 ∨ k = 8 ∨ k = 9 ∨ k = 10 ∨ k = 11 := by omega
          rcases hks with rfl | rfl | rfl | rfl | rfl | rfl | rfl | rfl | rfl | rfl | rfl | rfl <;> decide
        obtain ⟨b0, b1⟩ := hb0
        have HK := hide hk
        clear hfix hfit hsz hI0 hsc HR hk hbl
        have hpw : (0 : Int) < 2 ^ (fbits k).toNat := Int.pow_pos (by decide)
        by_cases hneg : F k < 0
        · have HX : Hid (RightX w F (W.setCell ⟨w.heap.size + 1, 0, none⟩ (.bool false))) :=
            ⟨World.cell?_setCell_same _ _ _ hrc, (unhide HI).below.setCell (p := ⟨w.heap.size + 1, 0, none⟩) (by simp) _, fun h => by have := (h k (unhide HK)).1; omega⟩
          have hd1 : decide (F k < 0) = true := by simpa using hneg
          gi_wp2
          exact ⟨(Above.refl _ _).setCell (p := ⟨w.heap.size + 1, 0, none⟩) (by simp; have := HS.out; omega) _, rfl, HX.out⟩
        · have hd1 : decide (F k < 0) = false := by simpa using hneg
          by_cases hlt : F k < 2 ^ (fbits k).toNat
          · have hq : F k / 2 ^ (fbits k).toNat = 0 := Int.ediv_eq_zero_of_lt (by omega) hlt
            have HM : Hid (RightI w w1.heap.size F (k + 1) W) := ⟨hrc, hrf, (unhide HI).fix, (unhide HI).below, fun j hj => by
              by_cases e : j = k
              · subst e; exact ⟨by omega, hlt⟩
              · exact (unhide HI).fits j (by omega)⟩
            clear hlt hneg
            gi_wp2
            exact ⟨Above.refl _ _, HM.out⟩
          · have HX : Hid (RightX w F (W.setCell ⟨w.heap.size + 1, 0, none⟩ (.bool false))) :=
              ⟨World.cell?_setCell_same _ _ _ hrc, (unhide HI).below.setCell (p := ⟨w.heap.size + 1, 0, none⟩) (by simp) _, fun h => by have := (h k (unhide HK)).2; omega⟩
            have hq : ¬ (F k / 2 ^ (fbits k).toNat = 0) := by
              intro e
              have h1 := Int.emod_add_mul_ediv (F k) (2 ^ (fbits k).toNat)
              have h2 := Int.emod_lt_of_pos (F k) hpw
              rw [e, Int.mul_zero] at h1
              omega
            clear hlt hneg
            gi_wp2
            exact ⟨(Above.refl _ _).setCell (p := ⟨w.heap.size + 1, 0, none⟩) (by simp; have := HS.out; omega) _, rfl, HX.out⟩
end Go.Proofs.Ytfppjpcolohmfaa
