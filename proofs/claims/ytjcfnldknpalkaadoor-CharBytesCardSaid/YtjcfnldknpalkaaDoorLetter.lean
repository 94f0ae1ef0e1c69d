/- The walks of letter, Word, Flow, Opens, cuts and of the document's among, Word, Flow, Opens. -/
import Derived.Test.YtjcfnldknpalkaaDoorRows
import Derived.Test.YtjcfnldknpalkaaDoorBytes
import Derived.WalkKit
import Derived.WalkSpells
import Derived.WalkLawsBesides
import Derived.Deep.QuietTactic
import Derived.BigQuiet
import Derived.Lib.Hide
namespace Go.Proofs.YtjcfnldknpalkaaDoor
open Go.RowKit

set_option maxRecDepth 100000 in
set_option maxHeartbeats 1000000 in
theorem letter_any (c : Nat) (w : World) (hc : c < 256) :
    Calls Tryd.prog 24 #[.int .u8 c] w fun e w' => e = .returned (.bool (letterB c)) ∧ w = w' := by
  go_enter Tryd.func24, Tryd.ntmps24
  go_wp2
  all_goals
    go_ret
    exact ⟨ret_b (by rw [Bool.eq_iff_iff]; simp [letterB]; omega), rfl⟩

set_option maxRecDepth 100000 in
set_option maxHeartbeats 1000000 in
theorem word_any (c : Nat) (w : World) (hc : c < 256) :
    Calls Tryd.prog 7 #[.int .u8 c] w fun e w' => e = .returned (.bool (wordB c)) ∧ w = w' := by
  have hl : letterB c = decide (97 ≤ c ∧ c ≤ 122 ∨ 65 ≤ c ∧ c ≤ 90 ∨ c = 95) := rfl
  cases h : letterB c with
  | true =>
    have HL := Lib.hid (hl.symm.trans h)
    clear hl h
    go_enter Tryd.func7, Tryd.ntmps7
    go_wp2_with fail
    refine (letter_any c _ hc).mono ?_
    rintro e w' ⟨rfl, rfl⟩
    rw [show letterB c = true from HL.out]
    go_wp2
    all_goals
      go_ret
      exact ⟨ret_b (by have := HL.out; rw [Bool.eq_iff_iff]; simp [wordB] at *; omega), rfl⟩
  | false =>
    have HL := Lib.hid (hl.symm.trans h)
    clear hl h
    go_enter Tryd.func7, Tryd.ntmps7
    go_wp2_with fail
    refine (letter_any c _ hc).mono ?_
    rintro e w' ⟨rfl, rfl⟩
    rw [show letterB c = false from HL.out]
    go_wp2
    all_goals
      go_ret
      exact ⟨ret_b (by have := HL.out; rw [Bool.eq_iff_iff]; simp [wordB] at *; omega), rfl⟩

theorem snoc_take (s : ByteArray) (k : Nat) (h : k < s.size) : s.data.toList.take (k + 1) = s.data.toList.take k ++ [s[k]] := by
  rw [List.take_succ_eq_append_getElem (by simpa using h)]; rfl

set_option maxRecDepth 100000 in
set_option maxHeartbeats 1000000 in
theorem flow_any (c : Nat) (w : World) (_hc : c < 256) :
    Calls Tryd.prog 9 #[.int .u8 c] w fun e w' => e = .returned (.bool (flowB c)) ∧ w = w' := by
  go_enter Tryd.func9, Tryd.ntmps9
  go_wp2
  all_goals
    go_ret
    exact ⟨ret_b (by rw [Bool.eq_iff_iff]; simp only [beq_iff_eq, beq_eq_false_iff_ne, ne_eq, flowB, decide_eq_true_eq] at *; simp <;> omega), rfl⟩

set_option maxRecDepth 100000 in
set_option maxHeartbeats 1000000 in
theorem opens_any (c : Nat) (w : World) (hc : c < 256) :
    Calls Tryd.prog 11 #[.int .u8 c] w fun e w' => e = .returned (.bool (opensB c)) ∧ w = w' := by
  have hf : flowB c = decide (c = 44 ∨ c = 91 ∨ c = 93 ∨ c = 123 ∨ c = 125) := rfl
  have HF := Lib.hid hf
  clear hf
  go_enter Tryd.func11, Tryd.ntmps11
  go_wp2_with (go_at_call 9; refine (flow_any c _ hc).mono ?_; rintro e w' ⟨rfl, rfl⟩)
  all_goals
    go_ret
    exact ⟨ret_b (by have := HF.out; rw [Bool.eq_iff_iff]; simp only [beq_iff_eq, beq_eq_false_iff_ne, ne_eq, opensB, decide_eq_true_eq] at *; simp [this] <;> omega), rfl⟩

set_option maxRecDepth 100000 in
set_option maxHeartbeats 1000000 in
theorem among_any (c : Nat) (s : ByteArray) (w : World) (_hc : c < 256) (hs : s.size ≤ maxLen) :
    Calls Tryd.prog 25 #[.int .u8 c, .string s] w fun e w' => e = .returned (.bool (amongB c s.data.toList)) ∧ w = w' := by
  unfold maxLen at hs
  go_enter Tryd.func25, Tryd.ntmps25
  go_wp2
  go_loop [5] (fun i => ∃ k : Nat, k ≤ s.size ∧ i = .int .i64 k ∧ Hid (amongB c (s.data.toList.take k) = false)) (fun i => s.size - (intOf i).toNat)
  case atStart => exact ⟨0, Nat.zero_le _, rfl, Lib.hid (by simp [amongB])⟩
  case round =>
    obtain ⟨k, hk, rfl, hno⟩ := hrel
    by_cases hlt : k < s.size
    · go_wp2
      · go_ret
        have hh : s[k].toNat = c := by have h' := ‹(_ == _) = true›; simp at h'; omega
        exact ⟨ret_b (by
          symm
          simp only [amongB, List.any_eq_true]
          exact ⟨s[k], by simp only [Array.mem_toList_iff]; exact Array.getElem_mem _, by simp [hh]⟩), rfl⟩
      · go_round
        case rel =>
          have hh : s[k].toNat ≠ c := by have h' := ‹(_ == _) = false›; simp at h'; omega
          exact ⟨k + 1, by omega, by go_num, Lib.hid (by
            have := hno.out
            rw [snoc_take s k hlt]
            simp only [amongB, List.any_append] at *
            rw [this]; simp [hh])⟩
        case measure => simp [intOf]; omega
    · go_wp2
      go_ret
      have := hno.out
      rw [List.take_of_length_le (by simp; omega)] at this
      exact ⟨ret_b this.symm, rfl⟩

set_option maxRecDepth 100000 in
set_option maxHeartbeats 1000000 in
theorem refWord_any (c : Nat) (w : World) (hc : c < 256) :
    Calls Tryd.prog 8 #[.int .u8 c] w fun e w' => e = .returned (.bool (wordB c)) ∧ w = w' := by
  go_enter Tryd.func8, Tryd.ntmps8
  go_wp2_with fail
  refine (among_any c ⟨wordL.toArray⟩ _ hc (by decide)).mono ?_
  rintro e w' ⟨rfl, rfl⟩
  rw [show amongB c (ByteArray.mk wordL.toArray).data.toList = wordB c from among_word ⟨c, hc⟩]
  go_wp2
  go_ret
  exact ⟨rfl, rfl⟩
set_option maxRecDepth 100000 in
set_option maxHeartbeats 1000000 in
theorem refFlow_any (c : Nat) (w : World) (hc : c < 256) :
    Calls Tryd.prog 10 #[.int .u8 c] w fun e w' => e = .returned (.bool (flowB c)) ∧ w = w' := by
  go_enter Tryd.func10, Tryd.ntmps10
  go_wp2_with fail
  refine (among_any c ⟨flowL.toArray⟩ _ hc (by decide)).mono ?_
  rintro e w' ⟨rfl, rfl⟩
  rw [show amongB c (ByteArray.mk flowL.toArray).data.toList = flowB c from among_flow ⟨c, hc⟩]
  go_wp2
  go_ret
  exact ⟨rfl, rfl⟩
set_option maxRecDepth 100000 in
set_option maxHeartbeats 1000000 in
theorem refOpens_any (c : Nat) (w : World) (hc : c < 256) :
    Calls Tryd.prog 12 #[.int .u8 c] w fun e w' => e = .returned (.bool (opensB c)) ∧ w = w' := by
  have hh := Lib.hid (among_opens ⟨c, hc⟩)
  cases hf : flowB c with
  | true =>
    have HF := Lib.hid hf
    clear hf
    go_enter Tryd.func12, Tryd.ntmps12
    go_wp2_with fail
    refine (refFlow_any c _ hc).mono ?_
    rintro e w' ⟨rfl, rfl⟩
    rw [HF.out]
    go_wp2
    go_ret
    exact ⟨ret_b (by have := hh.out; simp [HF.out] at this; exact this.symm), rfl⟩
  | false =>
    have HF := Lib.hid hf
    clear hf
    by_cases h96 : c = 96
    · subst h96
      go_enter Tryd.func12, Tryd.ntmps12
      go_wp2_with fail
      refine (refFlow_any 96 _ hc).mono ?_
      rintro e w' ⟨rfl, rfl⟩
      rw [HF.out]
      go_wp2
      go_ret
      exact ⟨rfl, rfl⟩
    · have k1 : ((c : Int) == 96) = false := by simp; omega
      go_enter Tryd.func12, Tryd.ntmps12
      go_wp2_with fail
      refine (refFlow_any c _ hc).mono ?_
      rintro e w' ⟨rfl, rfl⟩
      rw [HF.out]
      go_wp2_with fail
      refine (among_any c ⟨opensL.toArray⟩ _ hc (by decide)).mono ?_
      rintro e w' ⟨rfl, rfl⟩
      have hb : (c == 96) = false := by simp [h96]
      have ho : amongB c opensL = opensB c := by have := hh.out; simpa [HF.out, hb] using this
      rw [show amongB c (ByteArray.mk opensL.toArray).data.toList = opensB c from ho]
      clear hb ho
      go_wp2
      go_ret
      exact ⟨rfl, rfl⟩

set_option maxRecDepth 100000 in
set_option maxHeartbeats 1000000 in
theorem cuts_any (c : Nat) (fl : Bool) (w : World) (hc : c < 256) :
    Calls Tryd.prog 35 #[.int .u8 c, .bool fl] w fun e w' => e = .returned (.bool (cutsB c fl)) ∧ w = w' := by
  by_cases h : c = 32
  · subst h
    go_enter Tryd.func35, Tryd.ntmps35
    go_wp2
    go_ret
    exact ⟨rfl, rfl⟩
  · have k1 : ((c : Int) == 32) = false := by simp; omega
    have k2 : cutsB c fl = (fl && flowB c) := by simp [cutsB, h]
    have K2 := Lib.hid k2
    clear k2
    cases fl with
    | false =>
      go_enter Tryd.func35, Tryd.ntmps35
      go_wp2
      go_ret
      exact ⟨ret_b K2.out.symm, rfl⟩
    | true =>
      go_enter Tryd.func35, Tryd.ntmps35
      go_wp2_with fail
      refine (flow_any c _ hc).mono ?_
      rintro e w' ⟨rfl, rfl⟩
      go_wp2
      go_ret
      exact ⟨ret_b (by rw [K2.out]; simp), rfl⟩
end Go.Proofs.YtjcfnldknpalkaaDoor
