/- All of package pool: the members are handed on, by their IDs. -/
import Derived.Test.YtckkdgifjgkoaaaPqKeys
import Derived.Test.YtckkdgifjgkoaaaPqLoop
namespace Go.Proofs.Ytckkdgifjgkoaaa
open Go.ChangeShapes Go.WideShapes Go.ChangeAt Go.RowKit Go.Maps Go.Shelf An
attribute [local go_sem] Oper.semAt_some
/-- What All reads of a pool. -/
structure Lk (W : World) (b : QBk) (L : List Mem) : Prop where
  cell : W.cell? ⟨b.p, 2, none⟩ = some (.map (some b.m))
  mem : OwnM W b.m L
theorem Lk.on {W W' : World} {b : QBk} {L : List Mem} (h : Lk W b L) (hb : Below W.heap.size W W') : Lk W' b L :=
  ⟨(hb.cell (block_lt_of_cell h.cell)).trans h.cell, h.mem.of_block (hb.block _ h.mem.lt)⟩
theorem Lk.keeps {S : Nat → Prop} {W W' : World} {b : QBk} {L : List Mem} (h : Lk W b L) (hk : Keeps S W W') (h1 : S b.p) (h2 : S b.m) : Lk W' b L :=
  ⟨hk.cell h1 h.cell, h.mem.of_block (hk.block _ h2 h.mem.lt)⟩
theorem Lk.get {W : World} {b : QBk} {L : List Mem} (h : Lk W b L) (hI : ∀ m ∈ L, 1 ≤ m.id ∧ m.id ≤ 65535) {m : Mem} (hm : m ∈ L) : (Instr.lookup 71 (.map (some b.m)) (.int .i64 (m.id : Int)) false).run Try.prog W = .ok (.agg #[.int .i64 (m.id : Int), .int .u32 (m.addr : Int), .int .i64 (m.port : Int), .int .i64 (m.st : Int), .int .i64 (m.bk : Int)]) W := by
  obtain ⟨D, h1, h2⟩ := h.mem
  have hid := hI m hm
  obtain ⟨u, ps, k1, k2⟩ := h1.lookup lawM Try.underlying71 (zeroM W) (Rm_mk noMem) (key_mk (x := (m.id : Int)) (by omega))
  rw [h2.at_ m hm] at k2
  rw [k1, Rm_inv k2]
/-- The IDs as a slice. -/
def IdRow (W : World) (a : Option Addr) (lo : Nat) (L : List Mem) : Prop := ∀ (k : Nat) (m : Mem), L[k]? = some m → ∃ g, a = some ⟨g, 0, none⟩ ∧ lo ≤ g ∧ W.cell? ⟨g, k, none⟩ = some (.int .i64 (m.id : Int))
theorem IdRow.on {W W' : World} {a : Option Addr} {lo : Nat} {L : List Mem} (h : IdRow W a lo L) (hb : Below W.heap.size W W') : IdRow W' a lo L := fun k m hk => by
  obtain ⟨g, h1, h2, h3⟩ := h k m hk
  exact ⟨g, h1, h2, (hb.cell (block_lt_of_cell h3)).trans h3⟩
theorem IdRow.keeps {S : Nat → Prop} {W W' : World} {a : Option Addr} {lo : Nat} {L : List Mem} (h : IdRow W a lo L) (hk : Keeps S W W') (hS : ∀ k, lo ≤ k → S k) : IdRow W' a lo L := fun k m hm => by
  obtain ⟨g, h1, h2, h3⟩ := h k m hm
  exact ⟨g, h1, h2, hk.cell (hS g h2) h3⟩
theorem idRow_of {W : World} {lo n : Nat} {v : Value} {L : List Mem} (hn : n = L.length) (h : W.ownsRow lo 3 1 v n ((idsOf L).map encZ)) : ∃ a c, v = .slice a L.length c ∧ IdRow W a lo L := by
  subst hn
  have h0 := h
  rcases h.2 with ⟨h1, h2⟩ | ⟨g, cap, cur, h1, hlo, _⟩
  · refine ⟨none, 0, by rw [h1, h2], fun k m hk => ?_⟩
    have := (List.getElem?_eq_some_iff.1 hk).1
    omega
  · subst h1
    refine ⟨_, _, rfl, fun k m hk => ⟨g, rfl, hlo, ?_⟩⟩
    have e := h0.cells (g := g) rfl k (.int .i64 (m.id : Int)) (by unfold idsOf; rw [List.getElem?_map, List.getElem?_map, hk]; rfl)
    rw [show (⟨g, 0, none⟩ : Addr).add k = ⟨g, k, none⟩ by unfold Addr.add; split <;> simp_all] at e
    exact e
def allE (L : List Mem) (k : Nat) : Array Value := #[.agg #[.int .i64 ((L.getD k noMem).id : Int), .int .u32 ((L.getD k noMem).addr : Int), .int .i64 ((L.getD k noMem).port : Int)], .int .i64 ((L.getD k noMem).st : Int)]
set_option maxHeartbeats 400000 in
theorem qall_any (p : Nat) (w : World) :
    Calls Try.prog 14 #[.pointer (some ⟨p, 0, none⟩)] w fun e w' => e = .returned (.func (.func 30) #[] #[.pointer (some ⟨w.heap.size, 0, none⟩)]) ∧ w' = w.alloc (.cells #[.pointer (some ⟨p, 0, none⟩)] 24) := by
  go_enter Try.func14, Try.ntmps14
  go_wp2
  go_ret
  exact ⟨rfl, rfl⟩
set_option maxRecDepth 100000 in
set_option maxHeartbeats 4000000 in
theorem qall_gives (b : QBk) (L : List Mem) (hs : Po.Rises L) (hI : ∀ m ∈ L, 1 ≤ m.id ∧ m.id ≤ 65535) (hl : L.length ≤ 1000000) (Bs : Nat) (S : Nat → Prop) (W0 : World) (hSn : ∀ k, W0.heap.size ≤ k → S k) (hSB : S Bs) (hSp : S b.p) (hSm : S b.m)
    (hc : W0.cell? ⟨Bs, 0, none⟩ = some (.pointer (some ⟨b.p, 0, none⟩))) (hL : Lk W0 b L) :
    Gives Try.prog 30 #[.pointer (some ⟨Bs, 0, none⟩)] (fun _ => true) (allE L) L.length S W0 := by
  intro l J Jx hl0 hJ hJx _ hY h0
  have c2 := hL.cell
  obtain ⟨D, hD1, hD2⟩ := hL.mem
  have hkb := alloc_on W0 (.cells #[.map (some b.m)] 71)
  have hDs := hD2.size
  have HS := hide (sorted_any W0.heap.size b.m _ D Rm (W0.alloc (.cells #[.map (some b.m)] 71)) (by simp) (by simp [go_sem]) (ownsMap_block hD1 (hkb.block _ hD1.lt)) (by unfold maxLen; omega) (by omega))
  have hpm := keys_perm hD2 hs hD1
  have HP : Shut ((intKeys D).Perm (idsOf L)) := ⟨hpm⟩
  clear hD1 hD2 hDs hpm
  refine callsIn_of_wp Try.func30 rfl trivial ?_ rfl
  simp only [Try.ntmps30, List.size_toArray, List.length_cons, List.length_nil, Nat.reduceAdd, Nat.reduceSub, Array.replicate_succ, Array.replicate_zero, List.push_toArray, List.append_toArray, List.nil_append, List.cons_append]
  gi_wp2
  refine ⟨trivial, rfl, (callsIn_wide.2 (keys_any _ _)).mono ?_⟩
  rintro e w' ⟨rfl, rfl⟩
  gi_wp2
  refine ⟨trivial, rfl, (callsIn_wide.2 (unhide HS)).mono ?_⟩
  rintro e V ⟨v, ss, rfl, hss, hrow, hb⟩
  rw [mergeSort_ids hs (hss.trans HP.out)] at hrow
  have hlen : ss.length = L.length := by rw [(hss.trans HP.out).length_eq]; unfold idsOf; rw [List.length_map]
  obtain ⟨a, c, rfl, hid⟩ := idRow_of hlen hrow
  have hB : Below W0.heap.size W0 V := Below.then hkb hb
  have HJ0 : Shut _ := ⟨hJ 0 _ _ h0 hB⟩
  have HL0 : Shut (Lk V b L) := ⟨hL.on hB⟩
  have HI0 : Shut (IdRow V a W0.heap.size L) := ⟨fun k m hk => by
    obtain ⟨g, h1, h2, h3⟩ := hid k m hk
    exact ⟨g, h1, by simp at h2; omega, h3⟩⟩
  have hcB : V.cell? ⟨Bs, 0, none⟩ = some (.pointer (some ⟨b.p, 0, none⟩)) := (hB.cell (block_lt_of_cell hc)).trans hc
  have HCB : Shut _ := ⟨hcB⟩
  have HV : Shut (W0.heap.size ≤ V.heap.size) := ⟨hB.size⟩
  have hlb : (L.length : Int) ≤ 1000000 := by omega
  clear HS HP hss hrow hlen hid hkb hb hB h0 hcB c2
  gi_wp2
  gi_loopw [4, 5, 13] (fun _ _ i wr => ∃ k : Nat, k ≤ L.length ∧ i = .int .i64 (k : Int) ∧ J k wr ∧ Shut (Lk wr b L ∧ IdRow wr a W0.heap.size L ∧ wr.cell? ⟨Bs, 0, none⟩ = some (.pointer (some ⟨b.p, 0, none⟩)) ∧ W0.heap.size ≤ wr.heap.size)) (fun _ _ i _ => L.length - (intOf i).toNat)
  case atStart => exact ⟨0, Nat.zero_le _, rfl, HJ0.out, ⟨HL0.out, HI0.out, HCB.out, HV.out⟩⟩
  case round =>
    obtain ⟨k, hk, rfl, hJs, HR⟩ := hrel
    clear HJ0 HL0 HI0 HCB HV
    by_cases hlt : k < L.length
    · have hlt1 : (k : Int) < L.length := by omega
      obtain ⟨m, hm⟩ : ∃ m, L[k]? = some m := ⟨_, List.getElem?_eq_getElem hlt⟩
      obtain ⟨h1, h2, h3, h4⟩ := HR.out
      obtain ⟨g, rfl, hg, hcg⟩ := h2 k m hm
      have hget := h1.get hI (List.mem_of_getElem? hm)
      have hce := h1.cell
      have hal := alloc_on wr (.cells #[.int .i64 (m.id : Int), .int .u32 (m.addr : Int), .int .i64 (m.port : Int), .int .i64 (m.st : Int), .int .i64 (m.bk : Int)] 85)
      have hy0 := hY k _ hlt (by simp) (hJ k _ _ hJs (hal.mono h4))
      have he : allE L k = #[.agg #[.int .i64 (m.id : Int), .int .u32 (m.addr : Int), .int .i64 (m.port : Int)], .int .i64 (m.st : Int)] := by
        have hgd : L.getD k noMem = m := by rw [List.getD_eq_getElem?_getD, hm]; rfl
        unfold allE
        rw [hgd]
      rw [he] at hy0
      have HR1 : Shut _ := ⟨(⟨h1.on hal, h2.on hal, (hal.cell (block_lt_of_cell h3)).trans h3, Nat.le_trans h4 hal.size⟩ : _ ∧ _ ∧ _ ∧ _)⟩
      have HLT : Shut (k < L.length) := ⟨hlt⟩
      have HHJ : Shut _ := ⟨hJ⟩
      have hk1 : (k : Int) ≤ 1000000 := by omega
      clear HR h1 h2 h4 hJs hal he hlt
      clear hm
      obtain ⟨x0, x1, x2, x3, x4⟩ := m
      obtain ⟨fn, tmps, assign, body, hy, hR⟩ := hy0
      gi_wp2
      refine ⟨rfl, hR.mono ?_⟩
      rintro e W3 (⟨rfl, hJ3, hA3⟩ | ⟨rfl, hJx3, hA3⟩)
      · obtain ⟨h1, h2, h3, h4⟩ := HR1.out
        have HR3 : Shut _ := ⟨(⟨h1.keeps hA3 hSp hSm, h2.keeps hA3 hSn, hA3.cell hSB h3, Nat.le_trans h4 hA3.size⟩ : _ ∧ _ ∧ _ ∧ _)⟩
        clear h1 h2 h3 h4 HR1 hA3
        gi_wp2
        go_roundw
        case rel => exact ⟨k + 1, by have := HLT.out; omega, by go_num, hJ3, HR3⟩
        case measure => have := HLT.out; simp [intOf]; omega
      · gi_wp2
        refine bodyPost_ret (results_none rfl _ _ _) rfl ?_
        exact ⟨⟨_, rfl⟩, .inr ⟨k + 1, by have := HLT.out; omega, hJx3⟩⟩
    · obtain rfl : k = L.length := by omega
      have hlt1 : ¬ (L.length : Int) < L.length := by omega
      gi_wp2
      go_end0
      exact ⟨⟨_, rfl⟩, .inl hJs⟩
end Go.Proofs.Ytckkdgifjgkoaaa
