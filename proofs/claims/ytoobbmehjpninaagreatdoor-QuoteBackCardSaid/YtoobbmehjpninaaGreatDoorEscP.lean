/- Plain: The document's Escape of layer 5. -/
import Derived.Test.YtoobbmehjpninaaGreatDoorHexP
namespace Go.Proofs.YtoobbmehjpninaaGreatDoor
open Go.RowKit

theorem nbyte {s : ByteArray} {i c : Nat} (h : i < s.size) (hc : bt s i ≠ c) : ((s[i].toNat : Int) == c) = false := by
  have e := bt_get s i h
  simp only [beq_eq_false_iff_ne, ne_eq]; omega
theorem ybyte {s : ByteArray} {i c : Nat} (h : i < s.size) (hc : bt s i = c) : ((s[i].toNat : Int) == c) = true := by
  have e := bt_get s i h
  simp only [beq_iff_eq]; omega

end Go.Proofs.YtoobbmehjpninaaGreatDoor
