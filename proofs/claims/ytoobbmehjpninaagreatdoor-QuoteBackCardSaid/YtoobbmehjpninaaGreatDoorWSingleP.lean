/- Plain: The values of the document's WriteSingle. -/
import Derived.Test.YtoobbmehjpninaaGreatDoorOut
import Derived.Test.YtoobbmehjpninaaGreatDoorChr
import Derived.WalkSpells
import Derived.Lib.Hide
namespace Go.Proofs.YtoobbmehjpninaaGreatDoor
open Go.RowKit

/-- Each mark twice. -/
def dbl (l : List UInt8) : List UInt8 := l.flatMap fun b => if b.toNat = 39 then [39, 39] else [b]
theorem dbl_snoc (l : List UInt8) (b : UInt8) : dbl (l ++ [b]) = dbl l ++ (if b.toNat = 39 then [39, 39] else [b]) := by simp [dbl]
theorem dbl_len (l : List UInt8) : (dbl l).length ≤ 2 * l.length := by
  induction l with
  | nil => simp [dbl]
  | cons b l ih =>
    have : dbl (b :: l) = (if b.toNat = 39 then [39, 39] else [b]) ++ dbl l := by simp [dbl]
    rw [this, List.length_append]
    split <;> simp <;> omega
def wsL (l : List UInt8) : List UInt8 := 39 :: dbl l ++ [39]
theorem take_snoc8 (s : ByteArray) (k : Nat) (h : k < s.size) : s.data.toList.take (k + 1) = s.data.toList.take k ++ [s[k]] := by
  rw [List.take_succ_eq_append_getElem (by simpa using h)]; rfl

end Go.Proofs.YtoobbmehjpninaaGreatDoor
