/- The four numbers, a round, a text's sum: nothing of the program is in here. -/
import Derived.Test.YtbiilgdgmedpkaaSpLe
namespace Go.Proofs.Ytbiilgdgmedpkaa.Sp
open Go.RowKit

structure St where
  a : B
  b : B
  c : B
  d : B
deriving DecidableEq
def St.l (s : St) : List B := [s.a, s.b, s.c, s.d]
/-- A round. -/
def rnd (s : St) : St :=
  ⟨rotl (s.a + s.b) 32 + (rotl s.d 16 ^^^ (s.c + s.d)),
   rotl (rotl s.b 13 ^^^ (s.a + s.b)) 17 ^^^ (s.c + s.d + (rotl s.b 13 ^^^ (s.a + s.b))),
   rotl (s.c + s.d + (rotl s.b 13 ^^^ (s.a + s.b))) 32,
   rotl (rotl s.d 16 ^^^ (s.c + s.d)) 21 ^^^ (rotl (s.a + s.b) 32 + (rotl s.d 16 ^^^ (s.c + s.d)))⟩
def rndN : Nat → St → St
  | 0, s => s
  | n + 1, s => rnd (rndN n s)
/-- A word is stirred in. -/
def inB (s : St) (m : B) : St := { s with d := s.d ^^^ m }
def inA (s : St) (m : B) : St := { s with a := s.a ^^^ m }
def inW (s : St) (m : B) : St := inA (rndN 2 (inB s m)) m
def runW (f : Nat → B) : Nat → St → St
  | 0, s => s
  | n + 1, s => inW (runW f n s) (f n)
def beg (k l : B) : St := ⟨0x736f6d6570736575#64 ^^^ k, 0x646f72616e646f6d#64 ^^^ l, 0x6c7967656e657261#64 ^^^ k, 0x7465646279746573#64 ^^^ l⟩
def fin (s : St) : B :=
  let t := rndN 4 { s with c := s.c ^^^ 255#64 }
  t.a ^^^ t.b ^^^ t.c ^^^ t.d
/-- The word of what is left, and of how many bytes there are. -/
def lastW (s : ByteArray) : B := leB (s.data.toList.drop (s.size - s.size % 8)) ||| BitVec.ofNat 64 (s.size % 256) <<< 56
def hash (key s : ByteArray) : B := fin (inW (runW (fun k => wd s (8 * k) 0) (s.size / 8) (beg (wd key 0 0) (wd key 8 0))) (lastW s))
def hashV (key s : ByteArray) : B := if key.size = 16 then hash key s else 0#64
end Go.Proofs.Ytbiilgdgmedpkaa.Sp
