/- Plain: The values of the document's WriteDouble. -/
import Derived.Test.YtoobbmehjpninaaGreatDoorWSingleP
import Derived.Test.YtoobbmehjpninaaGreatDoorBtsP
import Derived.Test.YtoobbmehjpninaaGreatDoorSmallP
import Derived.Test.YtoobbmehjpninaaGreatDoorSign
import Derived.Test.YtoobbmehjpninaaGreatDoorPlc
namespace Go.Proofs.YtoobbmehjpninaaGreatDoor
open Go.RowKit

/-- The character at i and its length; a byte that is no UTF-8 is FFFD. -/
def dcN (s : ByteArray) (i : Nat) : Nat × Nat := if (chr s i).2 = 0 then (65533, 1) else chr s i
/-- A character, double-quoted. -/
def escW (c : Nat) : List UInt8 :=
  if c = 34 ∨ c = 92 then [92, UInt8.ofNat c] else if c = 10 then [92, 110] else if c = 9 then [92, 116]
  else if signB c = true then encB c else if c < 256 then [92, 120] ++ smallL c 2 else [92, 117] ++ smallL c 4
theorem escW_len (c : Nat) : (escW c).length ≤ 6 := by
  have := encB_len c
  have h2 := smallL_len c 2
  have h4 := smallL_len c 4
  unfold escW
  split
  · simp
  · split
    · simp
    · split
      · simp
      · split
        · omega
        · split
          · rw [List.length_append, h2]; simp
          · rw [List.length_append, h4]; simp
theorem esc_tot {o : List UInt8} {c i m : Nat} (h : o.length ≤ 6 * i + 1) (hm : 1 ≤ m) : (o ++ escW c).length ≤ 6 * (i + m) + 1 := by
  have := escW_len c
  rw [List.length_append]; omega
def wdF (s : ByteArray) : Nat → Nat → List UInt8
  | 0, _ => []
  | f + 1, i => if i < s.size then escW (dcN s i).1 ++ wdF s f (i + (dcN s i).2) else []
def wdL (s : ByteArray) : List UInt8 := 34 :: wdF s s.size 0 ++ [34]
theorem wdF_end (s : ByteArray) (f i : Nat) (h : s.size ≤ i) : wdF s f i = [] := by
  cases f with
  | zero => rfl
  | succ f => rw [wdF, if_neg (by omega)]
theorem wdF_step {s : ByteArray} {f i c m : Nat} (h : i < s.size) (hd : dcN s i = (c, m)) : wdF s (f + 1) i = escW c ++ wdF s f (i + m) := by rw [wdF, if_pos h, hd]
theorem chr_le (s : ByteArray) (i : Nat) : (chr s i).1 ≤ 1114111 := by
  unfold chr; split
  · simp
  · exact dec_le s i

end Go.Proofs.YtoobbmehjpninaaGreatDoor
