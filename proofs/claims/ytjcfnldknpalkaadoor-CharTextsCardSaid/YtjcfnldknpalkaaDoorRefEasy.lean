/- The walk of the document's Easy. -/
import Derived.Test.YtjcfnldknpalkaaDoorEasy
namespace Go.Proofs.YtjcfnldknpalkaaDoor
open Go.RowKit

set_option maxRecDepth 100000 in
set_option maxHeartbeats 4000000 in
theorem refEasy_no (s : ByteArray) (w : World) (_hs : s.size ≤ 3000) (_ : easyB s = false) (h : 0 < s.size) (hl : letterB (s[0].toNat) = false) :
    Calls Tryd.prog 17 #[.string s] w fun e w' => e = .returned (.bool false) ∧ w = w' := by
  obtain ⟨e1, e2⟩ := ne_facts h
  rcases first_ways s[0] with ⟨h1, _⟩ | ⟨h1, ⟨h2, h3⟩, _⟩ | ⟨h1, h2, _, h3⟩ | ⟨h1, h2, h3⟩
  · have q1 : ((s[0].toNat : Int) == 45) = true := (byte_eq h1).2
    clear h1 hl
    go_enter Tryd.func17, Tryd.ntmps17
    go_wp2
    go_ret
    exact ⟨rfl, rfl⟩
  · have q1 : ((s[0].toNat : Int) == 45) = false := (byte_ne h1).2
    have q2 : (48 : Int) ≤ (s[0].toNat : Int) := by omega
    have q3 : (s[0].toNat : Int) ≤ 57 := by omega
    clear h1 h2 h3 hl
    go_enter Tryd.func17, Tryd.ntmps17
    go_wp2
    go_ret
    exact ⟨rfl, rfl⟩
  · have q1 : ((s[0].toNat : Int) == 45) = false := (byte_ne h1).2
    have q2 : (s[0].toNat : Int) < 48 := by omega
    have H3 := Lib.hid h3
    clear h1 h2 h3 hl
    go_enter Tryd.func17, Tryd.ntmps17
    go_wp2_with fail
    refine (refWord_any _ _ (UInt8.toNat_lt _)).mono ?_
    rintro e w' ⟨rfl, rfl⟩
    rw [H3.out]
    go_wp2
    go_ret
    exact ⟨rfl, rfl⟩
  · have q1 : ((s[0].toNat : Int) == 45) = false := (byte_ne h1).2
    have q2 : (57 : Int) < (s[0].toNat : Int) := by omega
    have H3 := Lib.hid (h3.symm.trans hl)
    clear h1 h2 h3 hl
    go_enter Tryd.func17, Tryd.ntmps17
    go_wp2_with fail
    refine (refWord_any _ _ (UInt8.toNat_lt _)).mono ?_
    rintro e w' ⟨rfl, rfl⟩
    rw [H3.out]
    go_wp2
    go_ret
    exact ⟨rfl, rfl⟩

set_option maxRecDepth 100000 in
set_option maxHeartbeats 4000000 in
theorem refEasy_any (s : ByteArray) (w : World) (hs : s.size ≤ 3000) :
    Calls Tryd.prog 17 #[.string s] w fun e w' => e = .returned (.bool (easyB s)) ∧ w = w' := by
  by_cases h0 : 0 < s.size
  · have hb0 := bt_get s 0 h0
    cases hl : letterB (s[0].toNat) with
    | true =>
      obtain ⟨e1, e2⟩ := ne_facts h0
      have HN := Lib.hid (show easyB s = allB easyC s by unfold easyB; rw [decide_eq_true h0, ← hb0, hl]; simp)
      obtain ⟨h1, h2, h3⟩ : s[0].toNat ≠ 45 ∧ 57 < s[0].toNat ∧ wordB s[0].toNat = true := by
        rcases first_ways s[0] with ⟨_, h⟩ | ⟨_, _, h⟩ | ⟨_, _, h, _⟩ | ⟨a, b, h⟩
        · rw [hl] at h; cases h
        · rw [hl] at h; cases h
        · rw [hl] at h; cases h
        · exact ⟨a, b, by rw [← h]; exact hl⟩
      have q1 : ((s[0].toNat : Int) == 45) = false := (byte_ne h1).2
      have q2 : (57 : Int) < (s[0].toNat : Int) := by omega
      have q3 : decide ((48 : Int) ≤ (s[0].toNat : Int)) = true := decide_eq_true (by omega)
      have q4 : decide ((s[0].toNat : Int) ≤ 57) = false := decide_eq_false (by omega)
      have HL := Lib.hid h3
      clear hl hb0 h1 h2 h3
      go_enter Tryd.func17, Tryd.ntmps17
      go_wp2_with fail
      refine (refWord_any _ _ (UInt8.toNat_lt _)).mono ?_
      rintro e w' ⟨rfl, rfl⟩
      rw [HL.out]
      go_wp2
      go_loop [3] (fun j => ∃ k : Nat, j = .int .i64 k ∧ k ≤ s.size ∧ Hid ((s.data.toList.take k).all (fun b => easyC b.toNat) = true)) (fun j => s.size - (intOf j).toNat)
      case atStart => exact ⟨0, rfl, by omega, Lib.hid (by simp)⟩
      case round =>
        obtain ⟨k, rfl, hk, ha⟩ := hrel
        by_cases hlt : k < s.size
        · rcases easy_ways s[k] with ⟨hb, he⟩ | ⟨hb, h1, he⟩ | ⟨hb, h1, h2, he⟩ | ⟨hb, h1, h2, he⟩
          · have HB := Lib.hid hb
            have HE := Lib.hid he
            clear hb he
            go_wp2_with fail
            refine (refWord_any _ _ (UInt8.toNat_lt _)).mono ?_
            rintro e w' ⟨rfl, rfl⟩
            rw [HB.out]
            go_wp2
            go_round
            case rel => exact ⟨k + 1, by go_num, by omega, Lib.hid (all_step hlt HE.out ha.out)⟩
            case measure => simp [intOf]; omega
          · have HB := Lib.hid hb
            have HE := Lib.hid he
            have q1 : ((s[k].toNat : Int) != 46) = false := (byte_eq h1).1
            clear hb he h1
            go_wp2_with fail
            refine (refWord_any _ _ (UInt8.toNat_lt _)).mono ?_
            rintro e w' ⟨rfl, rfl⟩
            rw [HB.out]
            go_wp2
            go_round
            case rel => exact ⟨k + 1, by go_num, by omega, Lib.hid (all_step hlt HE.out ha.out)⟩
            case measure => simp [intOf]; omega
          · have HB := Lib.hid hb
            have HE := Lib.hid he
            have q1 : ((s[k].toNat : Int) != 46) = true := (byte_ne h1).1
            have q2 : ((s[k].toNat : Int) != 47) = false := (byte_eq h2).1
            clear hb he h1 h2
            go_wp2_with fail
            refine (refWord_any _ _ (UInt8.toNat_lt _)).mono ?_
            rintro e w' ⟨rfl, rfl⟩
            rw [HB.out]
            go_wp2
            go_round
            case rel => exact ⟨k + 1, by go_num, by omega, Lib.hid (all_step hlt HE.out ha.out)⟩
            case measure => simp [intOf]; omega
          · have HB := Lib.hid hb
            have HE := Lib.hid he
            have q1 : ((s[k].toNat : Int) != 46) = true := (byte_ne h1).1
            have q2 : ((s[k].toNat : Int) != 47) = true := (byte_ne h2).1
            clear hb he h1 h2
            go_wp2_with fail
            refine (refWord_any _ _ (UInt8.toNat_lt _)).mono ?_
            rintro e w' ⟨rfl, rfl⟩
            rw [HB.out]
            go_wp2
            go_ret
            exact ⟨ret_b (by rw [HN.out, all_bad hlt HE.out]), rfl⟩
        · go_wp2
          go_ret
          exact ⟨ret_b (by rw [HN.out, all_end (by omega) ha.out]), rfl⟩
    | false =>
      have HN := Lib.hid (show easyB s = false by unfold easyB; rw [decide_eq_true h0, ← hb0, hl]; simp)
      have := refEasy_no s w hs HN.out h0 hl
      rw [HN.out]
      exact this
  · obtain rfl := empty_of h0
    go_enter Tryd.func17, Tryd.ntmps17
    go_wp2
    go_ret
    exact ⟨rfl, rfl⟩
end Go.Proofs.YtjcfnldknpalkaaDoor
