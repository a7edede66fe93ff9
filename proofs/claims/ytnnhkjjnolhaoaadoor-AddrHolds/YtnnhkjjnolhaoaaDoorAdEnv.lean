/- What the library's variables hold where a call begins, and that it stays: strconv's table of tens, and its two errors. -/
import Derived.Test.YtnnhkjjnolhaoaaDoorRows
import Derived.Test.YtnnhkjjnolhaoaaDoorAdNet
import Derived.Test.YtnnhkjjnolhaoaaDoorShelf
import Derived.WalkKit
import Derived.ProofKit
import Derived.Handy
namespace Go.Proofs.YtnnhkjjnolhaoaaDoor
open Go.ChangeShapes Go.WideShapes Go.ChangeAt Go.RowKit

def Env (w : World) : Prop := Lib.TabIs Tryd.prog w "internal/strconv.uint64pow10" .u64 Lib.pow10Tab ∧ (∃ tp p, w.var? Tryd.prog "strconv.ErrSyntax" = some #[.iface tp p]) ∧ (∃ tp p, w.var? Tryd.prog "strconv.ErrRange" = some #[.iface tp p])

theorem var_on {W W' : World} {n : String} {cs : Array Value} (h : W.var? Tryd.prog n = some cs) (hb : Below W.heap.size W W') : W'.var? Tryd.prog n = some cs := by
  unfold World.var? at h ⊢
  cases hg : Tryd.prog.globalNamed n with
  | none => rw [hg] at h; simp at h
  | some g =>
    rw [hg] at h
    simp only [Option.bind_some] at h ⊢
    have hlt : g < W.heap.size := by
      rcases Nat.lt_or_ge g W.heap.size with h' | h'
      · exact h'
      · rw [Array.getElem?_eq_none h'] at h; simp at h
    rw [hb.block g hlt]; exact h

theorem Env.on {w w' : World} (h : Env w) (hb : Below w.heap.size w w') : Env w' := by
  obtain ⟨h1, ⟨t2, p2, h2⟩, ⟨t3, p3, h3⟩⟩ := h
  exact ⟨var_on h1 hb, ⟨t2, p2, var_on h2 hb⟩, ⟨t3, p3, var_on h3 hb⟩⟩
theorem Env.alloc {w : World} (h : Env w) (o : Obj) : Env (w.alloc o) := h.on ((Below.refl _ _).alloc (Nat.le_refl _) o)

theorem hide {p : Prop} (h : p) : Hid p := h
theorem unhide {p : Prop} (h : Hid p) : p := h
theorem join_u32 (x y : Int) (h2 : 0 ≤ y) (h3 : y < 256) : bits .or .u32 (x * 256 % 4294967296) y = (x * 256 + y) % 4294967296 := by
  rw [bits_join .u32 32 (by decide) Ad.wraps_u32 8 (x * 256 % 4294967296) y (by omega) (by omega) (by omega) h2 (by omega) (by omega)]
  omega
/-- One behind the other. -/
theorem Below.then {a b c : World} (h : Below a.heap.size a b) (k : Below b.heap.size b c) : Below a.heap.size a c := h.trans (k.mono h.size)
theorem below_grow (w : World) (k : Nat) (os : Array Obj) : Below w.heap.size w (Sort.grow (w.drewN k) os) := by
  refine ⟨rfl, rfl, rfl, by simp [Sort.grow, World.drewN], fun i hi => ?_⟩
  show (w.heap ++ os)[i]? = w.heap[i]?
  rw [Array.getElem?_append_left hi]
theorem below_bytes (w : World) (e : TypeId) (s : ByteArray) : Below w.heap.size w (Lib.bytesWorld w e s) :=
  ⟨rfl, rfl, rfl, by rw [Lib.bytesWorld_size]; omega, fun k hk => Lib.bytesWorld_at_old w e s k hk⟩

theorem ret_str {a b : List UInt8} (h : a = b) : Ending.returned (.string ⟨a.toArray⟩) = .returned (.string ⟨b.toArray⟩) := by rw [h]

/-- strconv.Itoa at 0 to 999. -/
theorem itoa_b (n : Int) (w : World) (h0 : 0 ≤ n) (h1 : n < 1000) (hE : Env w) :
    Calls Tryd.prog 24 #[.int .i64 n] w fun e w' => e = .returned (.string ⟨(Ad.dig n.toNat).toArray⟩) ∧ Below w.heap.size w w' := by
  refine (Tryd.strconv_Itoa n (by omega) (by omega) w hE.1).mono ?_
  rintro e w' ⟨rfl, k, os, rfl⟩
  refine ⟨ret_str ?_, below_grow w k os⟩
  rw [Lib.itoa, if_neg (by omega), Ad.dec_dig _ (by omega)]

/-- strconv.ParseUint at base 10, 8 bits, and every text. -/
theorem pu_any (s : ByteArray) (w : World) (hs : s.size ≤ 140737488355328) (hE : Env w) :
    Calls Tryd.prog 33 #[.string s, .int .i64 10, .int .i64 8] w fun e w' => (e = .returned (.tuple #[.int .u64 (Ad.pv s.data.toList), .nilIface]) ∨ ∃ t p, e = .returned (.tuple #[.int .u64 (Ad.pv s.data.toList), .iface t p])) ∧ Below w.heap.size w w' := by
  obtain ⟨_, ⟨t2, p2, h2⟩, ⟨t3, p3, h3⟩⟩ := hE
  cases h : Lib.parseUintB 8 s.data.toList with
  | ok u =>
    refine (Tryd.strconv_ParseUint_10_at8_ok s (by omega) u h w).mono ?_
    rintro e w' ⟨rfl, hw⟩
    refine ⟨.inl (by rw [Ad.pv, h]), ?_⟩
    rcases hw with rfl | rfl
    · exact Below.refl _ _
    · exact below_bytes _ _ _
  | «syntax» =>
    refine (Tryd.strconv_ParseUint_10_at8_syntax_var s (by omega) h t2 p2 w h2).mono ?_
    rintro e w' ⟨N, rfl, _, _, hb⟩
    exact ⟨.inr ⟨_, _, by rw [Ad.pv, h]; rfl⟩, hb⟩
  | range =>
    refine (Tryd.strconv_ParseUint_10_at8_range_var s (by omega) h t3 p3 w h3).mono ?_
    rintro e w' ⟨N, rfl, _, _, hb⟩
    exact ⟨.inr ⟨_, _, by rw [Ad.pv, h]; rfl⟩, hb⟩

/-- strconv.Atoi at every text. -/
theorem atoi_any (s : ByteArray) (w : World) (hs : s.size ≤ 140737488355328) (hE : Env w) :
    Calls Tryd.prog 30 #[.string s] w fun e w' => (e = .returned (.tuple #[.int .i64 (Ad.av s.data.toList), .nilIface]) ∨ ∃ t p, e = .returned (.tuple #[.int .i64 (Ad.av s.data.toList), .iface t p])) ∧ Below w.heap.size w w' := by
  obtain ⟨_, ⟨t2, p2, h2⟩, ⟨t3, p3, h3⟩⟩ := hE
  cases h : Lib.atoiAll s.data.toList with
  | ok u =>
    refine (Tryd.strconv_Atoi_ok s (by omega) u h w).mono ?_
    rintro e w' ⟨rfl, hw⟩
    refine ⟨.inl (by rw [Ad.av, h]), ?_⟩
    rcases hw with rfl | ⟨t, rfl⟩
    · exact Below.refl _ _
    · exact below_bytes _ _ _
  | «syntax» =>
    refine (Tryd.strconv_Atoi_syntax_var s (by omega) h t2 p2 w h2).mono ?_
    rintro e w' ⟨N, rfl, _, _, hb⟩
    exact ⟨.inr ⟨_, _, by rw [Ad.av, h]⟩, hb⟩
  | range =>
    refine (Tryd.strconv_Atoi_range_var s (by omega) h t3 p3 w h3).mono ?_
    rintro e w' ⟨N, rfl, _, _, hb⟩
    exact ⟨.inr ⟨_, _, by rw [Ad.av, h]⟩, hb⟩


theorem ba_ext {a b : ByteArray} (h : a.data.toList = b.data.toList) : a = b := by
  cases a with | mk x => cases b with | mk y => congr 1; exact Array.toList_inj.1 h
theorem ba_mk (s : ByteArray) : s = ⟨s.data.toList.toArray⟩ := by cases s; simp
theorem len_eq (s : ByteArray) : s.data.toList.length = s.size := by rw [Array.length_toList]; rfl
theorem mk_size (l : List UInt8) : (ByteArray.mk l.toArray).size = l.length := List.size_toArray
theorem tl_eq (s : ByteArray) : s.toList = s.data.toList := by rw [ba_mk s]; simp [ByteArray.toList_eq]
theorem ext_list (s : ByteArray) (a b : Nat) : (s.extract a b).data.toList = (s.data.toList.take b).drop a := by
  simp [ByteArray.data_extract, List.extract_eq_take_drop, List.drop_take]
theorem ext_pre (s : ByteArray) (n : Nat) : s.extract 0 n = ⟨(s.data.toList.take n).toArray⟩ := by
  apply ba_ext; rw [ext_list]; rfl
theorem ext_suf (s : ByteArray) (n : Nat) : s.extract n s.size = ⟨(s.data.toList.drop n).toArray⟩ := by
  apply ba_ext; rw [ext_list, List.take_of_length_le (Nat.le_of_eq (len_eq s))]

set_option maxHeartbeats 400000 in
/-- strings.Index of a text of one byte, and what it calls. -/
theorem indexl_one (s : ByteArray) (c : UInt8) (w : World) :
    Calls Tryd.prog 46 #[.string s, .string ⟨#[c]⟩] w fun e w' => e = .returned (.int .i64 (Lib.indexByte s.data.toList c)) ∧ w' = w := by
  have h0 : (({ data := #[c] } : ByteArray)[0]'(Nat.zero_lt_one)) = c := rfl
  cases h : ([c] == s.toList) with
  | true =>
    have hl : s.data.toList = [c] := by rw [← tl_eq]; exact (beq_iff_eq.1 h).symm
    rw [hl]
    go_enter Tryd.func46, Tryd.ntmps46
    go_wp2
    go_ret
    exact ⟨by simp [Lib.indexByte], rfl⟩
  | false =>
    go_enter Tryd.func46, Tryd.ntmps46
    go_wp2_with fail
    refine (Tryd.stringslite_IndexByte s c.toNat w).mono ?_
    rintro e w' ⟨rfl, rfl⟩
    go_wp2_with fail
    go_ret
    exact ⟨by simp, rfl⟩
set_option maxHeartbeats 400000 in
theorem index_one (s : ByteArray) (c : UInt8) (w : World) :
    Calls Tryd.prog 54 #[.string s, .string ⟨#[c]⟩] w fun e w' => e = .returned (.int .i64 (Lib.indexByte s.data.toList c)) ∧ w' = w := by
  go_enter Tryd.func54, Tryd.ntmps54
  go_wp2_with fail
  refine (indexl_one s c w).mono ?_
  rintro e w' ⟨rfl, rfl⟩
  go_wp2_with fail
  go_ret
  exact ⟨rfl, rfl⟩

set_option maxHeartbeats 400000 in
/-- strings.Cut at a text of one byte that is there, and where it is not. -/
theorem cutl_yes (s : ByteArray) (c : UInt8) (w : World) (hs : s.size ≤ 140737488355328) (h : c ∈ s.data.toList) :
    Calls Tryd.prog 38 #[.string s, .string ⟨#[c]⟩] w fun e w' => e = .returned (.tuple #[.string ⟨(Ad.before c s.data.toList).toArray⟩, .string ⟨(Ad.after c s.data.toList).toArray⟩, .bool true]) ∧ Below w.heap.size w w' := by
  have hi := Ad.idx_yes c _ h
  have hl := Ad.before_lt c _ h
  rw [len_eq] at hl
  have ht := Ad.take_before c _ h
  have hd := Ad.drop_after c _ h
  obtain ⟨n, hn⟩ : ∃ n : Nat, (Ad.before c s.data.toList).length = n := ⟨_, rfl⟩
  rw [hn] at hi hl ht hd
  rw [← ht, ← hd, ← ext_pre, ← ext_suf]
  have HI : ∀ w, Calls Tryd.prog 46 #[.string s, .string ⟨#[c]⟩] w fun e w' => e = .returned (.int .i64 n) ∧ w' = w := fun w => by
    have := indexl_one s c w; rw [hi] at this; exact this
  clear hi ht hd hn h
  go_enter Tryd.func38, Tryd.ntmps38
  go_wp2_with fail
  refine (HI w).mono ?_
  rintro e w' ⟨rfl, rfl⟩
  go_wp2_with fail
  go_region
  go_wp2_with fail
  go_returns
  exact ⟨rfl, by go_grown⟩
set_option maxHeartbeats 400000 in
theorem cutl_no (s : ByteArray) (c : UInt8) (w : World) (h : c ∉ s.data.toList) :
    Calls Tryd.prog 38 #[.string s, .string ⟨#[c]⟩] w fun e w' => e = .returned (.tuple #[.string s, .string ⟨#[]⟩, .bool false]) ∧ Below w.heap.size w w' := by
  have hi := Ad.idx_no c _ h
  have HI : ∀ w, Calls Tryd.prog 46 #[.string s, .string ⟨#[c]⟩] w fun e w' => e = .returned (.int .i64 (-1)) ∧ w' = w := fun w => by
    have := indexl_one s c w; rw [hi] at this; exact this
  clear hi h
  go_enter Tryd.func38, Tryd.ntmps38
  go_wp2_with fail
  refine (HI w).mono ?_
  rintro e w' ⟨rfl, rfl⟩
  go_wp2_with fail
  go_returns
  exact ⟨rfl, Below.refl _ _⟩
theorem cutl_any (s : ByteArray) (c : UInt8) (w : World) (hs : s.size ≤ 140737488355328) :
    Calls Tryd.prog 38 #[.string s, .string ⟨#[c]⟩] w fun e w' => (∃ b, e = .returned (.tuple #[.string ⟨(Ad.before c s.data.toList).toArray⟩, .string ⟨(Ad.after c s.data.toList).toArray⟩, .bool b])) ∧ Below w.heap.size w w' := by
  by_cases h : c ∈ s.data.toList
  · exact (cutl_yes s c w hs h).mono fun e w' ⟨he, hb⟩ => ⟨⟨true, he⟩, hb⟩
  · refine (cutl_no s c w h).mono fun e w' ⟨he, hb⟩ => ⟨⟨false, ?_⟩, hb⟩
    rw [he, Ad.before_no c _ h, Ad.after_no c _ h, ← ba_mk]
set_option maxHeartbeats 400000 in
theorem cut_any (s : ByteArray) (c : UInt8) (w : World) (hs : s.size ≤ 140737488355328) :
    Calls Tryd.prog 29 #[.string s, .string ⟨#[c]⟩] w fun e w' => (∃ b, e = .returned (.tuple #[.string ⟨(Ad.before c s.data.toList).toArray⟩, .string ⟨(Ad.after c s.data.toList).toArray⟩, .bool b])) ∧ Below w.heap.size w w' := by
  go_enter Tryd.func29, Tryd.ntmps29
  go_wp2_with fail
  refine (cutl_any s c w hs).mono ?_
  rintro e w' ⟨⟨b, rfl⟩, hb⟩
  go_wp2_with fail
  go_returns
  exact ⟨⟨b, rfl⟩, hb⟩
end Go.Proofs.YtnnhkjjnolhaoaaDoor
