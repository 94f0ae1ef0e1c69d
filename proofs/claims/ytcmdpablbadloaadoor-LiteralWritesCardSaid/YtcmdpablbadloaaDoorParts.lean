
/- The walks of Parts, begins, ends and of the document's Parts. -/
import Derived.Test.YtcmdpablbadloaaDoorLetter
import Derived.Test.YtcmdpablbadloaaDoorChr
namespace Go.Proofs.YtcmdpablbadloaaDoor
open Go.RowKit

/-- Does a colon part at i? -/
def partsB (s : ByteArray) (i : Nat) (fl : Bool) : Bool := decide (i < s.size) && decide (bt s i = 58) && (decide (i + 1 = s.size) || cutsB (bt s (i + 1)) fl)
theorem ne_true {s : ByteArray} {i c : Nat} (h : i < s.size) (hc : bt s i ≠ c) : ((s[i].toNat : Int) != c) = true ∧ ((s[i].toNat : Int) == c) = false := by
  have e := bt_get s i h
  have : (s[i].toNat : Int) ≠ c := by rw [e]; omega
  exact ⟨by simp [bne_iff_ne, this], by simp [this]⟩
theorem eq_true {s : ByteArray} {i c : Nat} (h : i < s.size) (hc : bt s i = c) : ((s[i].toNat : Int) != c) = false ∧ ((s[i].toNat : Int) == c) = true := by
  have e := bt_get s i h
  have : (s[i].toNat : Int) = c := by rw [e]; omega
  exact ⟨by simp [this], by simp [this]⟩

set_option maxRecDepth 100000 in
set_option maxHeartbeats 1000000 in
theorem parts_any (s : ByteArray) (i : Nat) (fl : Bool) (w : World) (h : i < s.size) (hs : s.size ≤ 2000) :
    Calls Tryd.prog 64 #[.string s, .int .i64 i, .bool fl] w fun e w' => e = .returned (.bool (partsB s i fl)) ∧ w = w' := by
  by_cases h58 : bt s i = 58
  · have k1 : ((s[i].toNat : Int) != 58) = false := (eq_true (c := 58) h h58).1
    by_cases h1 : i + 1 = s.size
    · have hp : partsB s i fl = true := by simp [partsB, h, h58, h1]
      have HP := Lib.hid hp
      have k3 : ((i : Int) + 1 == (s.size : Int)) = true := by simp; omega
      clear hp h58 h1
      go_enter Tryd.func64, Tryd.ntmps64
      go_wp2
      go_ret
      exact ⟨ret_b HP.out.symm, rfl⟩
    · have h2 : i + 1 < s.size := by omega
      have hp : partsB s i fl = cutsB (bt s (i + 1)) fl := by simp [partsB, h, h58, h1]
      have HP := Lib.hid hp
      have k3 : ((i : Int) + 1 == (s.size : Int)) = false := by simp; omega
      clear hp h58 h1
      go_enter Tryd.func64, Tryd.ntmps64
      go_wp2_with fail
      refine (cuts_any _ fl _ (UInt8.toNat_lt _)).mono ?_
      rintro e w' ⟨rfl, rfl⟩
      rw [show cutsB (s[i + 1].toNat) fl = partsB s i fl by rw [HP.out, bt_get]]
      go_wp2
      go_ret
      exact ⟨rfl, rfl⟩
  · have k1 : ((s[i].toNat : Int) != 58) = true := (ne_true (c := 58) h h58).1
    have hp : partsB s i fl = false := by simp [partsB, h58]
    have HP := Lib.hid hp
    clear hp h58
    go_enter Tryd.func64, Tryd.ntmps64
    go_wp2
    go_ret
    exact ⟨ret_b HP.out.symm, rfl⟩

/-- Out of the text nothing parts. -/
theorem parts_out (s : ByteArray) (i : Int) (fl : Bool) (w : World) (h : i < 0 ∨ (s.size : Int) ≤ i) (hs : s.size ≤ 2000) :
    Calls Tryd.prog 64 #[.string s, .int .i64 i, .bool fl] w fun e w' => e = .returned (.bool false) ∧ w = w' := by
  rcases h with h | h
  · go_enter Tryd.func64, Tryd.ntmps64
    go_wp2
    go_ret
    exact ⟨rfl, rfl⟩
  · have h0 : (0 : Int) ≤ i := by omega
    go_enter Tryd.func64, Tryd.ntmps64
    go_wp2
    go_ret
    exact ⟨rfl, rfl⟩
/-- May a plain text begin at i? -/
def beginsB (s : ByteArray) (i : Nat) (fl : Bool) : Bool :=
  if bt s i = 32 then false
  else if bt s i = 45 ∨ bt s i = 63 ∨ bt s i = 58 then decide (i + 1 < s.size) && !cutsB (bt s (i + 1)) fl
  else !opensB (bt s i)
/-- Does a plain text end ahead of i? -/
def endsB (s : ByteArray) (i : Nat) (fl : Bool) : Bool :=
  if bt s i = 58 then partsB s i fl else if bt s i = 35 then decide (bt s (i - 1) = 32) else fl && flowB (bt s i)
end Go.Proofs.YtcmdpablbadloaaDoor
