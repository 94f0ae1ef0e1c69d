
/- The walks of begins and ends. -/
import Derived.Test.YtcmdpablbadloaaDoorParts
namespace Go.Proofs.YtcmdpablbadloaaDoor
open Go.RowKit

/-- The three signs behind which a byte must stand, and what comes of it. -/
theorem begins_three (s : ByteArray) (i : Nat) (fl : Bool) (w : World) (h : i < s.size) (hs : s.size ≤ 2000) (h3 : bt s i = 45 ∨ bt s i = 63 ∨ bt s i = 58) :
    Calls Tryd.prog 44 #[.string s, .int .i64 i, .bool fl] w fun e w' => e = .returned (.bool (beginsB s i fl)) ∧ w = w' := by
  have hp : beginsB s i fl = (decide (i + 1 < s.size) && !cutsB (bt s (i + 1)) fl) := by
    unfold beginsB; rw [if_neg (by omega), if_pos h3]
  have k1 : ((s[i].toNat : Int) == 32) = false := (ne_true (c := 32) h (by omega)).2
  by_cases h2 : i + 1 < s.size
  · have k4 : decide ((i : Int) + 1 < (s.size : Int)) = true := by simp; omega
    have hp2 : beginsB s i fl = !cutsB (bt s (i + 1)) fl := by rw [hp]; simp [h2]
    have HP := Lib.hid hp2
    clear hp hp2
    rcases h3 with h3 | h3 | h3
    · have k2 : ((s[i].toNat : Int) == 45) = true := (eq_true (c := 45) h h3).2
      clear h3
      go_enter Tryd.func44, Tryd.ntmps44
      go_wp2_with fail
      refine (cuts_any _ fl _ (UInt8.toNat_lt _)).mono ?_
      rintro e w' ⟨rfl, rfl⟩
      rw [show cutsB (s[i + 1].toNat) fl = !beginsB s i fl by rw [HP.out, bt_get]; simp]
      go_wp2
      go_ret
      exact ⟨by simp, rfl⟩
    · have k2 : ((s[i].toNat : Int) == 45) = false := (ne_true (c := 45) h (by omega)).2
      have k3 : ((s[i].toNat : Int) == 63) = true := (eq_true (c := 63) h h3).2
      clear h3
      go_enter Tryd.func44, Tryd.ntmps44
      go_wp2_with fail
      refine (cuts_any _ fl _ (UInt8.toNat_lt _)).mono ?_
      rintro e w' ⟨rfl, rfl⟩
      rw [show cutsB (s[i + 1].toNat) fl = !beginsB s i fl by rw [HP.out, bt_get]; simp]
      go_wp2
      go_ret
      exact ⟨by simp, rfl⟩
    · have k2 : ((s[i].toNat : Int) == 45) = false := (ne_true (c := 45) h (by omega)).2
      have k3 : ((s[i].toNat : Int) == 63) = false := (ne_true (c := 63) h (by omega)).2
      have k5 : ((s[i].toNat : Int) == 58) = true := (eq_true (c := 58) h h3).2
      clear h3
      go_enter Tryd.func44, Tryd.ntmps44
      go_wp2_with fail
      refine (cuts_any _ fl _ (UInt8.toNat_lt _)).mono ?_
      rintro e w' ⟨rfl, rfl⟩
      rw [show cutsB (s[i + 1].toNat) fl = !beginsB s i fl by rw [HP.out, bt_get]; simp]
      go_wp2
      go_ret
      exact ⟨by simp, rfl⟩
  · have k4 : decide ((i : Int) + 1 < (s.size : Int)) = false := by simp; omega
    have hp2 : beginsB s i fl = false := by rw [hp]; simp [h2]
    have HP := Lib.hid hp2
    clear hp hp2
    rcases h3 with h3 | h3 | h3
    · have k2 : ((s[i].toNat : Int) == 45) = true := (eq_true (c := 45) h h3).2
      clear h3
      go_enter Tryd.func44, Tryd.ntmps44
      go_wp2
      go_ret
      exact ⟨ret_b HP.out.symm, rfl⟩
    · have k2 : ((s[i].toNat : Int) == 45) = false := (ne_true (c := 45) h (by omega)).2
      have k3 : ((s[i].toNat : Int) == 63) = true := (eq_true (c := 63) h h3).2
      clear h3
      go_enter Tryd.func44, Tryd.ntmps44
      go_wp2
      go_ret
      exact ⟨ret_b HP.out.symm, rfl⟩
    · have k2 : ((s[i].toNat : Int) == 45) = false := (ne_true (c := 45) h (by omega)).2
      have k3 : ((s[i].toNat : Int) == 63) = false := (ne_true (c := 63) h (by omega)).2
      have k5 : ((s[i].toNat : Int) == 58) = true := (eq_true (c := 58) h h3).2
      clear h3
      go_enter Tryd.func44, Tryd.ntmps44
      go_wp2
      go_ret
      exact ⟨ret_b HP.out.symm, rfl⟩

theorem begins_any (s : ByteArray) (i : Nat) (fl : Bool) (w : World) (h : i < s.size) (hs : s.size ≤ 2000) :
    Calls Tryd.prog 44 #[.string s, .int .i64 i, .bool fl] w fun e w' => e = .returned (.bool (beginsB s i fl)) ∧ w = w' := by
  by_cases h3 : bt s i = 45 ∨ bt s i = 63 ∨ bt s i = 58
  · exact begins_three s i fl w h hs h3
  by_cases h32 : bt s i = 32
  · have k1 : ((s[i].toNat : Int) == 32) = true := (eq_true (c := 32) h h32).2
    have HP := Lib.hid (show beginsB s i fl = false by unfold beginsB; rw [if_pos h32])
    clear h32 h3
    go_enter Tryd.func44, Tryd.ntmps44
    go_wp2
    go_ret
    exact ⟨ret_b HP.out.symm, rfl⟩
  · have k1 : ((s[i].toNat : Int) == 32) = false := (ne_true (c := 32) h h32).2
    have k2 : ((s[i].toNat : Int) == 45) = false := (ne_true (c := 45) h (by omega)).2
    have k3 : ((s[i].toNat : Int) == 63) = false := (ne_true (c := 63) h (by omega)).2
    have k5 : ((s[i].toNat : Int) == 58) = false := (ne_true (c := 58) h (by omega)).2
    have HP := Lib.hid (show beginsB s i fl = !opensB (bt s i) by unfold beginsB; rw [if_neg h32, if_neg h3])
    clear h32 h3
    go_enter Tryd.func44, Tryd.ntmps44
    go_wp2_with fail
    refine (opens_any _ _ (UInt8.toNat_lt _)).mono ?_
    rintro e w' ⟨rfl, rfl⟩
    rw [show opensB (s[i].toNat) = !beginsB s i fl by rw [HP.out, bt_get]; simp]
    go_wp2
    go_ret
    exact ⟨by simp, rfl⟩

theorem ends_any (s : ByteArray) (i : Nat) (fl : Bool) (w : World) (h : i < s.size) (h0 : 0 < i) (hs : s.size ≤ 2000) :
    Calls Tryd.prog 45 #[.string s, .int .i64 i, .bool fl] w fun e w' => e = .returned (.bool (endsB s i fl)) ∧ w = w' := by
  by_cases h58 : bt s i = 58
  · have k1 : ((s[i].toNat : Int) == 58) = true := (eq_true (c := 58) h h58).2
    have HP := Lib.hid (show endsB s i fl = partsB s i fl by unfold endsB; rw [if_pos h58])
    clear h58
    go_enter Tryd.func45, Tryd.ntmps45
    go_wp2_with fail
    refine (parts_any s i fl _ h hs).mono ?_
    rintro e w' ⟨rfl, rfl⟩
    go_wp2
    go_ret
    exact ⟨ret_b HP.out.symm, rfl⟩
  have k1 : ((s[i].toNat : Int) == 58) = false := (ne_true (c := 58) h h58).2
  by_cases h35 : bt s i = 35
  · have k2 : ((s[i].toNat : Int) == 35) = true := (eq_true (c := 35) h h35).2
    have hz : i - 1 < s.size := by omega
    have HP := Lib.hid (show endsB s i fl = decide (bt s (i - 1) = 32) by unfold endsB; rw [if_neg h58, if_pos h35])
    have HE := Lib.hid (bt_get s (i - 1) hz)
    clear h58 h35
    go_enter Tryd.func45, Tryd.ntmps45
    go_wp2
    go_ret
    exact ⟨ret_b (by rw [HP.out, ← HE.out, Bool.eq_iff_iff]; simp; omega), rfl⟩
  · have k2 : ((s[i].toNat : Int) == 35) = false := (ne_true (c := 35) h h35).2
    cases fl with
    | false =>
      have HP := Lib.hid (show endsB s i false = false by unfold endsB; rw [if_neg h58, if_neg h35]; rfl)
      clear h58 h35
      go_enter Tryd.func45, Tryd.ntmps45
      go_wp2
      go_ret
      exact ⟨ret_b HP.out.symm, rfl⟩
    | true =>
      have HP := Lib.hid (show endsB s i true = flowB (bt s i) by unfold endsB; rw [if_neg h58, if_neg h35]; simp)
      clear h58 h35
      go_enter Tryd.func45, Tryd.ntmps45
      go_wp2_with fail
      refine (flow_any _ _ (UInt8.toNat_lt _)).mono ?_
      rintro e w' ⟨rfl, rfl⟩
      rw [show flowB (s[i].toNat) = endsB s i true by rw [HP.out, bt_get]]
      go_wp2
      go_ret
      exact ⟨rfl, rfl⟩
end Go.Proofs.YtcmdpablbadloaaDoor
