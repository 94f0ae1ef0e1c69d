/- The walk of the document's Plain. -/
import Derived.Test.YtnnnanemefcmdaaGreatDoorZL0d
namespace Go.Proofs.YtnnnanemefcmdaaGreatDoor
open Go.RowKit

theorem refPlain_out (s : ByteArray) (i : Int) (fl : Bool) (w : World) (h : i < 0 ∨ (s.size : Int) ≤ i) (hs : s.size ≤ 4000) :
    Calls Tryz.prog 45 #[.string s, .int .i64 i, .bool fl] w fun e w' => e = .returned (.tuple #[.int .i64 0, .bool false]) ∧ w = w' := by
  rcases h with h | h
  · go_enter Tryz.func45, Tryz.ntmps45
    go_wp2
    go_ret2
    exact ⟨rfl, rfl⟩
  · have h0 : (0 : Int) ≤ i := by omega
    go_enter Tryz.func45, Tryz.ntmps45
    go_wp2
    go_ret2
    exact ⟨rfl, rfl⟩

theorem opens_three {c : Nat} (h : c = 45 ∨ c = 63 ∨ c = 58) : opensB c = true := by
  rcases h with rfl | rfl | rfl <;> decide

set_option maxRecDepth 100000 in
set_option maxHeartbeats 8000000 in
/-- The document's Plain at one of the three signs behind which a byte must stand, and none does. -/
theorem refPlain_three (s : ByteArray) (i : Nat) (fl : Bool) (w : World) (h : i < s.size) (hs : s.size ≤ 4000) (h3 : bt s i = 45 ∨ bt s i = 63 ∨ bt s i = 58)
    (hn : i + 1 = s.size ∨ i + 1 < s.size ∧ cutsB (bt s (i + 1)) fl = true) :
    Calls Tryz.prog 45 #[.string s, .int .i64 i, .bool fl] w fun e w' => e = .returned (.tuple #[.int .i64 0, .bool false]) ∧ w = w' := by
  have k1 : ((s[i].toNat : Int) == 32) = false := (ne_true (c := 32) h (by omega)).2
  have ho : opensB (s[i].toNat) = true := by rw [bt_get s i h]; exact opens_three h3
  have HO := Lib.hid ho
  clear ho
  rcases hn with hn | ⟨hn, hc⟩
  · have k4 : ((i : Int) == (s.size : Int) - 1) = true := by simp; omega
    rcases h3 with h3 | h3 | h3
    · have k2 : ((s[i].toNat : Int) != 45) = false := (eq_true (c := 45) h h3).1
      clear h3 hn
      go_enter Tryz.func45, Tryz.ntmps45
      go_wp2_with fail
      refine (refOpens_any _ _ (UInt8.toNat_lt _)).mono ?_
      rintro e w' ⟨rfl, rfl⟩
      rw [HO.out]
      go_wp2
      go_ret2
      exact ⟨rfl, rfl⟩
    · have k2 : ((s[i].toNat : Int) != 45) = true := (ne_true (c := 45) h (by omega)).1
      have k3 : ((s[i].toNat : Int) != 63) = false := (eq_true (c := 63) h h3).1
      clear h3 hn
      go_enter Tryz.func45, Tryz.ntmps45
      go_wp2_with fail
      refine (refOpens_any _ _ (UInt8.toNat_lt _)).mono ?_
      rintro e w' ⟨rfl, rfl⟩
      rw [HO.out]
      go_wp2
      go_ret2
      exact ⟨rfl, rfl⟩
    · have k2 : ((s[i].toNat : Int) != 45) = true := (ne_true (c := 45) h (by omega)).1
      have k3 : ((s[i].toNat : Int) != 63) = true := (ne_true (c := 63) h (by omega)).1
      have k5 : ((s[i].toNat : Int) != 58) = false := (eq_true (c := 58) h h3).1
      clear h3 hn
      go_enter Tryz.func45, Tryz.ntmps45
      go_wp2_with fail
      refine (refOpens_any _ _ (UInt8.toNat_lt _)).mono ?_
      rintro e w' ⟨rfl, rfl⟩
      rw [HO.out]
      go_wp2
      go_ret2
      exact ⟨rfl, rfl⟩
  · have k4 : ((i : Int) == (s.size : Int) - 1) = false := by simp; omega
    by_cases h32 : bt s (i + 1) = 32
    · have k6 : ((s[i + 1].toNat : Int) == 32) = true := (eq_true (c := 32) hn h32).2
      clear h32 hc
      rcases h3 with h3 | h3 | h3
      · have k2 : ((s[i].toNat : Int) != 45) = false := (eq_true (c := 45) h h3).1
        clear h3
        go_enter Tryz.func45, Tryz.ntmps45
        go_wp2_with fail
        refine (refOpens_any _ _ (UInt8.toNat_lt _)).mono ?_
        rintro e w' ⟨rfl, rfl⟩
        rw [HO.out]
        go_wp2
        go_ret2
        exact ⟨rfl, rfl⟩
      · have k2 : ((s[i].toNat : Int) != 45) = true := (ne_true (c := 45) h (by omega)).1
        have k3 : ((s[i].toNat : Int) != 63) = false := (eq_true (c := 63) h h3).1
        clear h3
        go_enter Tryz.func45, Tryz.ntmps45
        go_wp2_with fail
        refine (refOpens_any _ _ (UInt8.toNat_lt _)).mono ?_
        rintro e w' ⟨rfl, rfl⟩
        rw [HO.out]
        go_wp2
        go_ret2
        exact ⟨rfl, rfl⟩
      · have k2 : ((s[i].toNat : Int) != 45) = true := (ne_true (c := 45) h (by omega)).1
        have k3 : ((s[i].toNat : Int) != 63) = true := (ne_true (c := 63) h (by omega)).1
        have k5 : ((s[i].toNat : Int) != 58) = false := (eq_true (c := 58) h h3).1
        clear h3
        go_enter Tryz.func45, Tryz.ntmps45
        go_wp2_with fail
        refine (refOpens_any _ _ (UInt8.toNat_lt _)).mono ?_
        rintro e w' ⟨rfl, rfl⟩
        rw [HO.out]
        go_wp2
        go_ret2
        exact ⟨rfl, rfl⟩
    · have k6 : ((s[i + 1].toNat : Int) == 32) = false := (ne_true (c := 32) hn h32).2
      cases fl with
      | false => simp [cutsB, h32] at hc
      | true =>
        have hf : flowB (s[i + 1].toNat) = true := by rw [bt_get s (i + 1) hn]; simpa [cutsB, h32] using hc
        have HF := Lib.hid hf
        clear hf h32 hc
        rcases h3 with h3 | h3 | h3
        · have k2 : ((s[i].toNat : Int) != 45) = false := (eq_true (c := 45) h h3).1
          clear h3
          go_enter Tryz.func45, Tryz.ntmps45
          go_wp2_with fail
          refine (refOpens_any _ _ (UInt8.toNat_lt _)).mono ?_
          rintro e w' ⟨rfl, rfl⟩
          rw [HO.out]
          go_wp2_with fail
          refine (refFlow_any _ _ (UInt8.toNat_lt _)).mono ?_
          rintro e w' ⟨rfl, rfl⟩
          rw [HF.out]
          go_wp2
          go_ret2
          exact ⟨rfl, rfl⟩
        · have k2 : ((s[i].toNat : Int) != 45) = true := (ne_true (c := 45) h (by omega)).1
          have k3 : ((s[i].toNat : Int) != 63) = false := (eq_true (c := 63) h h3).1
          clear h3
          go_enter Tryz.func45, Tryz.ntmps45
          go_wp2_with fail
          refine (refOpens_any _ _ (UInt8.toNat_lt _)).mono ?_
          rintro e w' ⟨rfl, rfl⟩
          rw [HO.out]
          go_wp2_with fail
          refine (refFlow_any _ _ (UInt8.toNat_lt _)).mono ?_
          rintro e w' ⟨rfl, rfl⟩
          rw [HF.out]
          go_wp2
          go_ret2
          exact ⟨rfl, rfl⟩
        · have k2 : ((s[i].toNat : Int) != 45) = true := (ne_true (c := 45) h (by omega)).1
          have k3 : ((s[i].toNat : Int) != 63) = true := (ne_true (c := 63) h (by omega)).1
          have k5 : ((s[i].toNat : Int) != 58) = false := (eq_true (c := 58) h h3).1
          clear h3
          go_enter Tryz.func45, Tryz.ntmps45
          go_wp2_with fail
          refine (refOpens_any _ _ (UInt8.toNat_lt _)).mono ?_
          rintro e w' ⟨rfl, rfl⟩
          rw [HO.out]
          go_wp2_with fail
          refine (refFlow_any _ _ (UInt8.toNat_lt _)).mono ?_
          rintro e w' ⟨rfl, rfl⟩
          rw [HF.out]
          go_wp2
          go_ret2
          exact ⟨rfl, rfl⟩

theorem refPlain_no (s : ByteArray) (i : Nat) (fl : Bool) (w : World) (h : i < s.size) (hs : s.size ≤ 4000) (hb : beginsB s i fl = false) :
    Calls Tryz.prog 45 #[.string s, .int .i64 i, .bool fl] w fun e w' => e = .returned (.tuple #[.int .i64 0, .bool false]) ∧ w = w' := by
  by_cases h3 : bt s i = 45 ∨ bt s i = 63 ∨ bt s i = 58
  · refine refPlain_three s i fl w h hs h3 ?_
    unfold beginsB at hb
    rw [if_neg (by omega), if_pos h3] at hb
    by_cases e : i + 1 < s.size
    · right; simpa [e] using hb
    · left; omega
  by_cases h32 : bt s i = 32
  · have k1 : ((s[i].toNat : Int) == 32) = true := (eq_true (c := 32) h h32).2
    clear h32 h3 hb
    go_enter Tryz.func45, Tryz.ntmps45
    go_wp2
    go_ret2
    exact ⟨rfl, rfl⟩
  · have k1 : ((s[i].toNat : Int) == 32) = false := (ne_true (c := 32) h h32).2
    have k2 : ((s[i].toNat : Int) != 45) = true := (ne_true (c := 45) h (by omega)).1
    have k3 : ((s[i].toNat : Int) != 63) = true := (ne_true (c := 63) h (by omega)).1
    have k5 : ((s[i].toNat : Int) != 58) = true := (ne_true (c := 58) h (by omega)).1
    have ho : opensB (s[i].toNat) = true := by
      rw [bt_get s i h]
      unfold beginsB at hb
      rw [if_neg h32, if_neg h3] at hb
      simpa using hb
    have HO := Lib.hid ho
    clear h32 h3 hb ho
    go_enter Tryz.func45, Tryz.ntmps45
    go_wp2_with fail
    refine (refOpens_any _ _ (UInt8.toNat_lt _)).mono ?_
    rintro e w' ⟨rfl, rfl⟩
    rw [HO.out]
    go_wp2
    go_ret2
    exact ⟨rfl, rfl⟩
end Go.Proofs.YtnnnanemefcmdaaGreatDoor
