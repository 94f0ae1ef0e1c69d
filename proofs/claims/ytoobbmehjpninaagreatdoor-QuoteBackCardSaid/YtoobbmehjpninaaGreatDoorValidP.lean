/- Plain: The valuess of the document's Valid, and of its Shown for longer texts than char/XShown has. -/
import Derived.Test.YtoobbmehjpninaaGreatDoorBackD
namespace Go.Proofs.YtoobbmehjpninaaGreatDoor
open Go.RowKit

theorem vldF_end (s : ByteArray) (f i : Nat) (h : s.size ≤ i) : vldF s f i = true := by
  cases f with
  | zero => rfl
  | succ f => rw [vldF, if_neg (by omega)]
theorem vldF_bad {s : ByteArray} {f i : Nat} (h : i < s.size) (hm : (chr s i).2 = 0) : vldF s (f + 1) i = false := by rw [vldF, if_pos h]; simp [hm]
theorem vldF_good {s : ByteArray} {f i : Nat} (h : i < s.size) (hm : (chr s i).2 ≠ 0) : vldF s (f + 1) i = vldF s f (i + (chr s i).2) := by rw [vldF, if_pos h]; simp [hm]

/-- Is what stands from a place on shown? -/
def shqF (s : ByteArray) : Nat → Nat → Bool
  | 0, _ => true
  | f + 1, i => if i < s.size then (decide ((chr s i).2 ≠ 0) && (!decide ((chr s i).1 = 10) && signB (chr s i).1)) && shqF s f (i + (chr s i).2) else true
theorem shqF_end (s : ByteArray) (f i : Nat) (h : s.size ≤ i) : shqF s f i = true := by
  cases f with
  | zero => rfl
  | succ f => rw [shqF, if_neg (by omega)]
theorem shqF_bad {s : ByteArray} {f i : Nat} (h : i < s.size) (hm : (chr s i).2 = 0 ∨ (chr s i).1 = 10 ∨ signB (chr s i).1 = false) : shqF s (f + 1) i = false := by
  rw [shqF, if_pos h]
  rcases hm with h | h | h <;> simp [h]
theorem shqF_good {s : ByteArray} {f i : Nat} (h : i < s.size) (hm : (chr s i).2 ≠ 0) (h10 : (chr s i).1 ≠ 10) (hs : signB (chr s i).1 = true) : shqF s (f + 1) i = shqF s f (i + (chr s i).2) := by
  rw [shqF, if_pos h]; simp [hm, h10, hs]
theorem retQ {a b : Bool} (h : a = b) : Ending.returned (.bool a) = .returned (.bool b) := by rw [h]

end Go.Proofs.YtoobbmehjpninaaGreatDoor
