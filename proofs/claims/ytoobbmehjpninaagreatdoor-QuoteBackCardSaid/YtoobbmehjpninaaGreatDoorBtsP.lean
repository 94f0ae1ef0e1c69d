/- Plain: The values of the document's Bytes. -/
import Derived.Test.YtoobbmehjpninaaGreatDoorOut
import Derived.WalkSpells
import Derived.Lib.Hide
namespace Go.Proofs.YtoobbmehjpninaaGreatDoor
open Go.RowKit

/-- A character's bytes. -/
def encB (c : Nat) : List UInt8 :=
  if c < 128 then [UInt8.ofNat c]
  else if c < 2048 then [UInt8.ofNat (192 + c / 64), UInt8.ofNat (128 + c % 64)]
  else if c < 65536 then [UInt8.ofNat (224 + c / 4096), UInt8.ofNat (128 + c / 64 % 64), UInt8.ofNat (128 + c % 64)]
  else [UInt8.ofNat (240 + c / 262144), UInt8.ofNat (128 + c / 4096 % 64), UInt8.ofNat (128 + c / 64 % 64), UInt8.ofNat (128 + c % 64)]
theorem encB_len (c : Nat) : 1 ≤ (encB c).length ∧ (encB c).length ≤ 4 := by unfold encB; split <;> (try split) <;> (try split) <;> simp
theorem nat8 {n : Nat} (h : n < 256) : ((UInt8.ofNat n).toNat : Int) = (n : Int) := by simp; omega

end Go.Proofs.YtoobbmehjpninaaGreatDoor
