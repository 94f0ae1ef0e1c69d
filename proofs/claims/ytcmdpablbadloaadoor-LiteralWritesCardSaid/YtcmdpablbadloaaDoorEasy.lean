
/- The walks of Easy, the program's and the document's. -/
import Derived.Test.YtcmdpablbadloaaDoorName
namespace Go.Proofs.YtcmdpablbadloaaDoor
open Go.RowKit

theorem easy_no {c : Nat} (h : wordB c = false) (h1 : c ≠ 46) (h2 : c ≠ 47) : easyC c = false := by simp [easyC, h, h1, h2]
theorem byte_eq {b : UInt8} {c : Nat} (h : b.toNat = c) : ((b.toNat : Int) != c) = false ∧ ((b.toNat : Int) == c) = true := by simp [h]
theorem byte_ne {b : UInt8} {c : Nat} (h : b.toNat ≠ c) : ((b.toNat : Int) != c) = true ∧ ((b.toNat : Int) == c) = false := by
  have : (b.toNat : Int) ≠ c := by omega
  exact ⟨by simp [bne_iff_ne, this], by simp [this]⟩

/-- What a round of either Easy finds at a byte. -/
theorem easy_ways (b : UInt8) : wordB b.toNat = true ∧ easyC b.toNat = true ∨ wordB b.toNat = false ∧ b.toNat = 46 ∧ easyC b.toNat = true ∨ wordB b.toNat = false ∧ b.toNat ≠ 46 ∧ b.toNat = 47 ∧ easyC b.toNat = true ∨ wordB b.toNat = false ∧ b.toNat ≠ 46 ∧ b.toNat ≠ 47 ∧ easyC b.toNat = false := by
  cases h : wordB b.toNat with
  | true => left; exact ⟨rfl, by simp [easyC, h]⟩
  | false =>
    by_cases h1 : b.toNat = 46
    · right; left; exact ⟨rfl, h1, by simp [easyC, h1]⟩
    · by_cases h2 : b.toNat = 47
      · right; right; left; exact ⟨rfl, h1, h2, by simp [easyC, h2]⟩
      · right; right; right; exact ⟨rfl, h1, h2, easy_no h h1 h2⟩

set_option maxRecDepth 100000 in
set_option maxHeartbeats 4000000 in
theorem easy_any (s : ByteArray) (w : World) (hs : s.size ≤ 3000) :
    Calls Tryd.prog 26 #[.string s] w fun e w' => e = .returned (.bool (easyB s)) ∧ w = w' := by
  by_cases h0 : 0 < s.size
  · obtain ⟨e1, e2⟩ := ne_facts h0
    have hb0 := bt_get s 0 h0
    cases hl : letterB (s[0].toNat) with
    | true =>
      have HN := Lib.hid (show easyB s = allB easyC s by unfold easyB; rw [decide_eq_true h0, ← hb0, hl]; simp)
      have HL := Lib.hid hl
      clear hl hb0
      go_enter Tryd.func26, Tryd.ntmps26
      go_wp2_with fail
      refine (letter_any _ _ (UInt8.toNat_lt _)).mono ?_
      rintro e w' ⟨rfl, rfl⟩
      rw [HL.out]
      go_wp2
      go_loop [14] (fun j => ∃ k : Nat, j = .int .i64 k ∧ k ≤ s.size ∧ Hid ((s.data.toList.take k).all (fun b => easyC b.toNat) = true)) (fun j => s.size - (intOf j).toNat)
      case atStart => exact ⟨0, rfl, by omega, Lib.hid (by simp)⟩
      case round =>
        obtain ⟨k, rfl, hk, ha⟩ := hrel
        by_cases hlt : k < s.size
        · rcases easy_ways s[k] with ⟨hb, he⟩ | ⟨hb, h1, he⟩ | ⟨hb, h1, h2, he⟩ | ⟨hb, h1, h2, he⟩
          · have HB := Lib.hid hb
            have HE := Lib.hid he
            clear hb he
            go_wp2_with fail
            refine (word_any _ _ (UInt8.toNat_lt _)).mono ?_
            rintro e w' ⟨rfl, rfl⟩
            rw [HB.out]
            go_wp2
            go_round
            case rel => exact ⟨k + 1, by go_num, by omega, Lib.hid (all_step hlt HE.out ha.out)⟩
            case measure => simp [intOf]; omega
          · have HB := Lib.hid hb
            have HE := Lib.hid he
            have q1 : ((s[k].toNat : Int) != 46) = false := (byte_eq h1).1
            clear hb he h1
            go_wp2_with fail
            refine (word_any _ _ (UInt8.toNat_lt _)).mono ?_
            rintro e w' ⟨rfl, rfl⟩
            rw [HB.out]
            go_wp2
            go_round
            case rel => exact ⟨k + 1, by go_num, by omega, Lib.hid (all_step hlt HE.out ha.out)⟩
            case measure => simp [intOf]; omega
          · have HB := Lib.hid hb
            have HE := Lib.hid he
            have q1 : ((s[k].toNat : Int) != 46) = true := (byte_ne h1).1
            have q2 : ((s[k].toNat : Int) != 47) = false := (byte_eq h2).1
            clear hb he h1 h2
            go_wp2_with fail
            refine (word_any _ _ (UInt8.toNat_lt _)).mono ?_
            rintro e w' ⟨rfl, rfl⟩
            rw [HB.out]
            go_wp2
            go_round
            case rel => exact ⟨k + 1, by go_num, by omega, Lib.hid (all_step hlt HE.out ha.out)⟩
            case measure => simp [intOf]; omega
          · have HB := Lib.hid hb
            have HE := Lib.hid he
            have q1 : ((s[k].toNat : Int) != 46) = true := (byte_ne h1).1
            have q2 : ((s[k].toNat : Int) != 47) = true := (byte_ne h2).1
            clear hb he h1 h2
            go_wp2_with fail
            refine (word_any _ _ (UInt8.toNat_lt _)).mono ?_
            rintro e w' ⟨rfl, rfl⟩
            rw [HB.out]
            go_wp2
            go_ret
            exact ⟨ret_b (by rw [HN.out, all_bad hlt HE.out]), rfl⟩
        · go_wp2
          go_ret
          exact ⟨ret_b (by rw [HN.out, all_end (by omega) ha.out]), rfl⟩
    | false =>
      have HN := Lib.hid (show easyB s = false by unfold easyB; rw [decide_eq_true h0, ← hb0, hl]; simp)
      have HL := Lib.hid hl
      clear hl hb0
      go_enter Tryd.func26, Tryd.ntmps26
      go_wp2_with fail
      refine (letter_any _ _ (UInt8.toNat_lt _)).mono ?_
      rintro e w' ⟨rfl, rfl⟩
      rw [HL.out]
      go_wp2
      go_ret
      exact ⟨ret_b HN.out.symm, rfl⟩
  · obtain rfl := empty_of h0
    go_enter Tryd.func26, Tryd.ntmps26
    go_wp2
    go_ret
    exact ⟨rfl, rfl⟩

/-- What the document's Easy asks of the first byte. -/
theorem first_ways (b : UInt8) : b.toNat = 45 ∧ letterB b.toNat = false ∨ b.toNat ≠ 45 ∧ (48 ≤ b.toNat ∧ b.toNat ≤ 57) ∧ letterB b.toNat = false ∨ b.toNat ≠ 45 ∧ b.toNat < 48 ∧ letterB b.toNat = false ∧ wordB b.toNat = false ∨ b.toNat ≠ 45 ∧ 57 < b.toNat ∧ letterB b.toNat = wordB b.toNat := by
  unfold letterB wordB
  have := b.toNat_lt
  by_cases h1 : b.toNat = 45
  · left; exact ⟨h1, by simp; omega⟩
  · by_cases h2 : b.toNat < 48
    · right; right; left; exact ⟨h1, h2, by simp; omega, by simp; omega⟩
    · by_cases h3 : b.toNat ≤ 57
      · right; left; exact ⟨h1, ⟨by omega, h3⟩, by simp; omega⟩
      · right; right; right; exact ⟨h1, by omega, by rw [Bool.eq_iff_iff]; simp; omega⟩
end Go.Proofs.YtcmdpablbadloaaDoor
