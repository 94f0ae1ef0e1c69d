/- Plain: The document's hex, number, Escape of layer 5. -/
import Derived.Test.YtoobbmehjpninaaGreatDoorRows
import Derived.Test.YtoobbmehjpninaaGreatDoorChr
import Derived.WalkKit
import Derived.WalkSpells
import Derived.WalkLawsBesides
import Derived.Deep.QuietTactic
import Derived.BigQuiet
import Derived.Lib.Hide
namespace Go.Proofs.YtoobbmehjpninaaGreatDoor
open Go.RowKit

/-- A hexadecimal digit's number; -1: none. -/
def hexN (c : Nat) : Int := if 48 ≤ c ∧ c ≤ 57 then (c : Int) - 48 else if 97 ≤ c ∧ c ≤ 102 then (c : Int) - 87 else if 65 ≤ c ∧ c ≤ 70 then (c : Int) - 55 else -1
theorem hexN_range (c : Nat) : -1 ≤ hexN c ∧ hexN c ≤ 15 := by unfold hexN; split <;> (try split) <;> (try split) <;> omega
theorem ret_i {a b : Int} (h : a = b) : Ending.returned (.int .i64 a) = .returned (.int .i64 b) := by rw [h]
theorem ret_ii {a b a' b' : Int} (h : a = a') (h' : b = b') : Ending.returned (.tuple #[.int .i64 a, .int .i64 b]) = .returned (.tuple #[.int .i64 a', .int .i64 b']) := by rw [h, h']

/-- The number of n hexadecimal digits from i on. -/
def numO (s : ByteArray) (i : Nat) : Nat → Option Nat
  | 0 => some 0
  | k + 1 => match numO s i k with
    | none => none
    | some v => if hexN (bt s (i + k)) < 0 then none else some (v * 16 + (hexN (bt s (i + k))).toNat)
def numR (s : ByteArray) (i n : Nat) : Int := if s.size < i + n then -1 else match numO s i n with | none => -1 | some v => v
theorem numO_none {s : ByteArray} {i k n : Nat} (h : numO s i k = none) (hk : k ≤ n) : numO s i n = none := by
  induction hk with
  | refl => exact h
  | step _ ih => simp [numO, ih]
theorem numO_le {s : ByteArray} {i n v : Nat} (h : numO s i n = some v) : v < 16 ^ n := by
  induction n generalizing v with
  | zero => simp [numO] at h; omega
  | succ n ih =>
    simp only [numO] at h
    split at h
    · cases h
    · rename_i v0 h0
      have := ih h0
      have := hexN_range (bt s (i + n))
      split at h
      · cases h
      · cases h; rw [Nat.pow_succ]; omega
theorem numR_range (s : ByteArray) (i n : Nat) : -1 ≤ numR s i n ∧ numR s i n < 16 ^ n := by
  have hp : (0 : Int) < 16 ^ n := Int.pow_pos (by decide)
  unfold numR
  split
  · omega
  · split
    · omega
    · rename_i v h
      have := numO_le h
      have h2 : ((v : Nat) : Int) < ((16 ^ n : Nat) : Int) := by exact_mod_cast this
      simp at h2
      omega

/-- A small escape's character and its length; (0, 0): none. -/
def escN (s : ByteArray) (i : Nat) : Int × Int :=
  if i + 1 = s.size then (0, 0)
  else if bt s (i + 1) = 92 ∨ bt s (i + 1) = 34 then ((bt s (i + 1) : Int), 2)
  else if bt s (i + 1) = 110 then (10, 2)
  else if bt s (i + 1) = 116 then (9, 2)
  else if bt s (i + 1) = 120 then (if numR s (i + 2) 2 < 0 then (0, 0) else (numR s (i + 2) 2, 4))
  else if bt s (i + 1) = 117 then (if numR s (i + 2) 4 < 0 ∨ 55296 ≤ numR s (i + 2) 4 ∧ numR s (i + 2) 4 < 57344 then (0, 0) else (numR s (i + 2) 4, 6))
  else (0, 0)
end Go.Proofs.YtoobbmehjpninaaGreatDoor
