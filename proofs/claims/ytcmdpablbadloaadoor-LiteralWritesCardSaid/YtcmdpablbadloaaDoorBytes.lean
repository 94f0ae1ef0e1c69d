/- What a byte is: plain, as predicates on its number. -/
import Derived.WalkKit
namespace Go.Proofs.YtcmdpablbadloaaDoor
open Go.RowKit

def letterB (c : Nat) : Bool := decide (97 ≤ c ∧ c ≤ 122 ∨ 65 ≤ c ∧ c ≤ 90 ∨ c = 95)
def wordB (c : Nat) : Bool := decide (97 ≤ c ∧ c ≤ 122 ∨ 65 ≤ c ∧ c ≤ 90 ∨ c = 95 ∨ 48 ≤ c ∧ c ≤ 57 ∨ c = 45)
def flowB (c : Nat) : Bool := decide (c = 44 ∨ c = 91 ∨ c = 93 ∨ c = 123 ∨ c = 125)
def opensB (c : Nat) : Bool := decide ((c = 44 ∨ c = 91 ∨ c = 93 ∨ c = 123 ∨ c = 125) ∨ c = 96 ∨ c = 45 ∨ c = 63 ∨ c = 58 ∨ c = 35 ∨ c = 38 ∨ c = 42 ∨ c = 33 ∨ c = 124 ∨ c = 62 ∨ c = 39 ∨ c = 34 ∨ c = 37 ∨ c = 64)
/-- Is c among the bytes of l? -/
def amongB (c : Nat) (l : List UInt8) : Bool := l.any fun b => b.toNat == c
def wordL : List UInt8 := [97,98,99,100,101,102,103,104,105,106,107,108,109,110,111,112,113,114,115,116,117,118,119,120,121,122,65,66,67,68,69,70,71,72,73,74,75,76,77,78,79,80,81,82,83,84,85,86,87,88,89,90,48,49,50,51,52,53,54,55,56,57,95,45]
def flowL : List UInt8 := [44, 91, 93, 123, 125]
def opensL : List UInt8 := [45, 63, 58, 35, 38, 42, 33, 124, 62, 39, 34, 37, 64]
theorem among_word : ∀ c : Fin 256, amongB c.val wordL = wordB c.val := by decide +kernel
theorem among_flow : ∀ c : Fin 256, amongB c.val flowL = flowB c.val := by decide +kernel
theorem among_opens : ∀ c : Fin 256, (flowB c.val || (c.val == 96) || amongB c.val opensL) = opensB c.val := by decide +kernel
def cutsB (c : Nat) (fl : Bool) : Bool := decide (c = 32) || fl && flowB c
theorem ret_b {a b : Bool} (h : a = b) : Ending.returned (.bool a) = .returned (.bool b) := by rw [h]
end Go.Proofs.YtcmdpablbadloaaDoor
