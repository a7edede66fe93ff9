/- What is known of a packet that Classify has told (mathematics; nothing of the program). -/
import Derived.Test.YtpjaajeojiaeiaaGreatDoorPkTell
import Derived.Test.YtpjaajeojiaeiaaGreatDoorPpList
namespace Go.Proofs.YtpjaajeojiaeiaaGreatDoor
open Go.RowKit

theorem firstL_zero : ∀ {l : List Int}, firstL l = 0 → ∀ x ∈ l, x = 0
  | [], _, x, hx => absurd hx (by simp)
  | e :: r, h, x, hx => by
    unfold firstL at h
    by_cases he : e = 0
    · rw [if_pos he] at h
      rcases List.mem_cons.1 hx with rfl | hx
      · exact he
      · exact firstL_zero h x hx
    · rw [if_neg he] at h
      exact absurd h he
/-- Of a packet whose first error is none. -/
structure Told (s : ByteArray) : Prop where
  m : Ip.Meas s
  pos : (clsP s).pos = Ip.fget s 1 * 4
  total : (clsP s).total = Ip.fget s 3
  ttl : (clsP s).ttl = got s 8 1
  body : Ip.parseS s = s.extract (Ip.fget s 1 * 4).toNat (Ip.fget s 3).toNat
  kinds : ((clsP s).kind = 1 ∧ (clsP s).tup.proto = 6 ∧ Tc.parseE (Ip.parseS s) = 0) ∨ ((clsP s).kind = 1 ∧ (clsP s).tup.proto = 17 ∧ Ps.measE (Ip.parseS s) = 0) ∨
    ((clsP s).kind = 2 ∧ Ic.parseE (Ip.parseS s) = 0 ∧ qE (Ic.parseH (Ip.parseS s)).body = 0 ∧ (clsP s).tup = qT (Ic.parseH (Ip.parseS s)).body ∧ (clsP s).quote = (clsP s).pos + 8 ∧ (clsP s).inner = (clsP s).pos + 8 + qN (Ic.parseH (Ip.parseS s)).body)
theorem parseE_meas {s : ByteArray} (h : Ip.parseE s = 0) : Ip.measE s = 0 := by
  unfold Ip.parseE at h
  by_cases hm : Ip.measE s = 0
  · exact hm
  · rw [if_neg hm] at h; exact absurd h hm
theorem told {s : ByteArray} (h : clsE s = 0) : Told s := by
  have hz := firstL_zero (l := [Ip.parseE s, frgE s, inE (Ip.parseH s).proto (outP s (Ip.parseH s)) (Ip.parseS s)]) h
  have h1 : Ip.parseE s = 0 := hz _ (by simp)
  have h2 : frgE s = 0 := hz _ (by simp)
  have h3 : inE (Ip.parseH s).proto (outP s (Ip.parseH s)) (Ip.parseS s) = 0 := hz _ (by simp)
  have hm := parseE_meas h1
  have m := Ip.meas_of hm
  have hP : clsP s = inP (Ip.parseH s).proto (outP s (Ip.parseH s)) (Ip.parseS s) := by unfold clsP; rw [if_pos ⟨h1, h2⟩]
  have hS : Ip.parseS s = s.extract (Ip.fget s 1 * 4).toNat (Ip.fget s 3).toNat := by unfold Ip.parseS; rw [if_pos h1]; rfl
  have ht : (outP s (Ip.parseH s)).ttl = got s 8 1 := by
    show (Ip.parseH s).ttl = _
    rw [(Ip.gots s m.n).g8]
    unfold Ip.parseH
    rw [if_pos h1]
    rfl
  have hp : (outP s (Ip.parseH s)).pos = Ip.fget s 1 * 4 := if_pos hm
  have hT : (outP s (Ip.parseH s)).total = Ip.fget s 3 := if_pos hm
  generalize outP s (Ip.parseH s) = o at *
  unfold inE at h3
  unfold inP at hP
  by_cases h6 : (Ip.parseH s).proto = 6
  · rw [if_pos h6] at h3 hP
    rw [segP_yes h3] at hP
    have hb : Tc.parseE (Ip.parseS s) = 0 := firstL_zero (l := [Tc.parseE (Ip.parseS s), Ps.verE 6 o.src o.dst (Ip.parseS s)]) h3 _ (by simp)
    exact ⟨m, by rw [hP]; exact hp, by rw [hP]; exact hT, by rw [hP]; exact ht, hS, .inl ⟨by rw [hP], by rw [hP], hb⟩⟩
  · rw [if_neg h6] at h3 hP
    by_cases h17 : (Ip.parseH s).proto = 17
    · rw [if_pos h17] at h3 hP
      rw [datP_yes h3] at hP
      have hb : Ps.measE (Ip.parseS s) = 0 := firstL_zero (l := [Ps.measE (Ip.parseS s), Ps.verE 17 o.src o.dst (Ip.parseS s)]) h3 _ (by simp)
      exact ⟨m, by rw [hP]; exact hp, by rw [hP]; exact hT, by rw [hP]; exact ht, hS, .inr (.inl ⟨by rw [hP], by rw [hP], hb⟩)⟩
    · rw [if_neg h17] at h3 hP
      by_cases hi : (Ip.parseH s).proto = 1
      · rw [if_pos hi] at h3 hP
        rw [msgP_yes h3] at hP
        have hz := firstL_zero (l := [Ic.parseE (Ip.parseS s), typE (Ip.parseS s), qE (Ic.parseH (Ip.parseS s)).body]) h3
        have hb : Ic.parseE (Ip.parseS s) = 0 := hz _ (by simp)
        have hq : qE (Ic.parseH (Ip.parseS s)).body = 0 := hz _ (by simp)
        exact ⟨m, by rw [hP]; exact hp, by rw [hP]; exact hT, by rw [hP]; exact ht, hS, .inr (.inr ⟨by rw [hP], hb, hq, by rw [hP], by rw [hP], by rw [hP]⟩)⟩
      · rw [if_neg hi] at h3
        exact absurd h3 (by decide)
theorem got1_rng (s : ByteArray) (p : Int) : 0 ≤ got s p 1 ∧ got s p 1 ≤ 255 := (got_rng s p).1
/-- The places of a told packet. -/
theorem Told.at_ {s : ByteArray} (t : Told s) : 20 ≤ (clsP s).pos ∧ (clsP s).pos ≤ (clsP s).total ∧ (clsP s).total ≤ s.size ∧ (clsP s).total ≤ 1500 ∧ 0 ≤ (clsP s).ttl ∧ (clsP s).ttl ≤ 255 := by
  have m := t.m
  have h1 := m.lo
  have h2 := m.t0
  have h3 := m.t1
  have h4 := m.t2
  have h5 := got1_rng s 8
  rw [t.pos, t.total, t.ttl]
  omega
/-- Of a quote that is right. -/
structure Quoted (q : ByteArray) : Prop where
  lo : 20 ≤ qSize q
  hi : qSize q + 8 ≤ q.size
  proto : (qT q).proto = 6 ∨ (qT q).proto = 17
  src : Ps.U32 (qT q).src
  dst : Ps.U32 (qT q).dst
  sport : 0 ≤ (qT q).sport ∧ (qT q).sport ≤ 65535
  dport : 0 ≤ (qT q).dport ∧ (qT q).dport ≤ 65535
  tup : qT q = ⟨got q 9 1, got q 12 4, got q 16 4, got q (qSize q) 2, got q (qSize q + 2) 2⟩
  size : qN q = qSize q
theorem quoted_of {q : ByteArray} (h : qE q = 0) : Quoted q := by
  obtain ⟨h1, h2⟩ := qE_yes h
  have hb : qB4 q = false ∧ qB6 q = false ∧ qB7 q = false := by
    unfold qE at h
    split at h
    · cases h
    · split at h
      · cases h
      · split at h
        · cases h
        · split at h
          · cases h
          · split at h
            · cases h
            · split at h
              · cases h
              · rename_i a b c d
                exact ⟨by simpa using (by assumption : ¬ qB4 q = true), by simpa using (by assumption : ¬ qB6 q = true), by simpa using (by assumption : ¬ qB7 q = true)⟩
  obtain ⟨b4, b6, b7⟩ := hb
  unfold qB4 at b4
  unfold qB6 at b6
  unfold qB7 at b7
  simp at b4 b6 b7
  refine ⟨by omega, by omega, ?_, ?_, ?_, ?_, ?_, h1, h2⟩
  · rw [h1]
    show got q 9 1 = 6 ∨ got q 9 1 = 17
    by_cases h6 : got q 9 1 = 6
    · exact .inl h6
    · exact .inr (b6 h6)
  · rw [h1]; exact (got_rng q 12).2.2
  · rw [h1]; exact (got_rng q 16).2.2
  · rw [h1]; exact (got_rng q _).2.1
  · rw [h1]; exact (got_rng q _).2.1
theorem Told.about {s : ByteArray} (t : Told s) (hk : (clsP s).kind = 2) : Ic.parseE (Ip.parseS s) = 0 ∧ Quoted (Ic.parseH (Ip.parseS s)).body ∧ (clsP s).tup = qT (Ic.parseH (Ip.parseS s)).body ∧ (clsP s).quote = (clsP s).pos + 8 ∧ (clsP s).inner = (clsP s).pos + 8 + qSize (Ic.parseH (Ip.parseS s)).body := by
  rcases t.kinds with ⟨h, -⟩ | ⟨h, -⟩ | ⟨-, h1, h2, h3, h4, h5⟩
  · rw [h] at hk; cases hk
  · rw [h] at hk; cases hk
  · have q := quoted_of h2
    exact ⟨h1, q, h3, h4, by rw [h5, q.size]⟩
end Go.Proofs.YtpjaajeojiaeiaaGreatDoor
