/- Plain: The values of the document's small. -/
import Derived.Test.YtoobbmehjpninaaGreatDoorOut
import Derived.Test.YtoobbmehjpninaaGreatDoorAid
import Derived.WalkSpells
import Derived.Lib.Hide
namespace Go.Proofs.YtoobbmehjpninaaGreatDoor
open Go.RowKit

def dig (d : Nat) : UInt8 := UInt8.ofNat (if 9 < d then 87 + d else 48 + d)
/-- The last k hexadecimal digits of v. -/
def smallL (v : Nat) : Nat → List UInt8
  | 0 => []
  | k + 1 => dig (v / 16 ^ k % 16) :: smallL v k
theorem smallL_len (v k : Nat) : (smallL v k).length = k := by induction k with
  | zero => rfl
  | succ k ih => simp [smallL, ih]
theorem dig_val (d : Nat) (h : d < 16) : ((dig d).toNat : Int) = if 9 < d then 87 + (d : Int) else 48 + (d : Int) := by
  unfold dig
  split <;> (simp; omega)

end Go.Proofs.YtoobbmehjpninaaGreatDoor
