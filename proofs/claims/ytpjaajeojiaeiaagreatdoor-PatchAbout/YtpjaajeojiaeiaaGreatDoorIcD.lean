/- Contracts and mathematics of the layers below (IcBit). -/
import Derived.Test.YtpjaajeojiaeiaaGreatDoorIcC
/- A message with one bit turned, or its last byte cut off, has another sum: the plain facts. -/
namespace Go.Proofs.YtpjaajeojiaeiaaGreatDoor.Ic
open Go.RowKit

theorem wf_mk {k c r : Int} (b : ByteArray) (k0 : 0 ≤ k) (k1 : k ≤ 255) (c0 : 0 ≤ c) (c1 : c ≤ 255) (r0 : 0 ≤ r) (r1 : r ≤ 4294967295) (hb : b.size ≤ 140737488355328) : Hd.Wf ⟨k, c, r, b⟩ :=
 ⟨⟨by show _ ≤ k; omega, by show k ≤ _; omega⟩, ⟨by show _ ≤ c; omega, by show c ≤ _; omega⟩, ⟨r0, r1⟩, hb⟩
end Go.Proofs.YtpjaajeojiaeiaaGreatDoor.Ic
