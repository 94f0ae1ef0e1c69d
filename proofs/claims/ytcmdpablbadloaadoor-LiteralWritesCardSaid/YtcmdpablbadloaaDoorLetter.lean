
/- The walks of letter, Word, Flow, Opens, cuts and of the document's among, Word, Flow, Opens. -/
import Derived.Test.YtcmdpablbadloaaDoorRows
import Derived.Test.YtcmdpablbadloaaDoorBytes
import Derived.WalkKit
import Derived.WalkSpells
import Derived.WalkLawsBesides
import Derived.Deep.QuietTactic
import Derived.BigQuiet
import Derived.Lib.Hide
namespace Go.Proofs.YtcmdpablbadloaaDoor
open Go.RowKit

set_option maxRecDepth 100000 in
set_option maxHeartbeats 1000000 in
theorem letter_any (c : Nat) (w : World) (hc : c < 256) :
    Calls Tryd.prog 50 #[.int .u8 c] w fun e w' => e = .returned (.bool (letterB c)) ∧ w = w' := by
  go_enter Tryd.func50, Tryd.ntmps50
  go_wp2
  all_goals
    go_ret
    exact ⟨ret_b (by rw [Bool.eq_iff_iff]; simp [letterB]; omega), rfl⟩

set_option maxRecDepth 100000 in
set_option maxHeartbeats 1000000 in
theorem word_any (c : Nat) (w : World) (hc : c < 256) :
    Calls Tryd.prog 49 #[.int .u8 c] w fun e w' => e = .returned (.bool (wordB c)) ∧ w = w' := by
  have hl : letterB c = decide (97 ≤ c ∧ c ≤ 122 ∨ 65 ≤ c ∧ c ≤ 90 ∨ c = 95) := rfl
  cases h : letterB c with
  | true =>
    have HL := Lib.hid (hl.symm.trans h)
    clear hl h
    go_enter Tryd.func49, Tryd.ntmps49
    go_wp2_with fail
    refine (letter_any c _ hc).mono ?_
    rintro e w' ⟨rfl, rfl⟩
    rw [show letterB c = true from HL.out]
    go_wp2
    all_goals
      go_ret
      exact ⟨ret_b (by have := HL.out; rw [Bool.eq_iff_iff]; simp [wordB] at *; omega), rfl⟩
  | false =>
    have HL := Lib.hid (hl.symm.trans h)
    clear hl h
    go_enter Tryd.func49, Tryd.ntmps49
    go_wp2_with fail
    refine (letter_any c _ hc).mono ?_
    rintro e w' ⟨rfl, rfl⟩
    rw [show letterB c = false from HL.out]
    go_wp2
    all_goals
      go_ret
      exact ⟨ret_b (by have := HL.out; rw [Bool.eq_iff_iff]; simp [wordB] at *; omega), rfl⟩

theorem snoc_take (s : ByteArray) (k : Nat) (h : k < s.size) : s.data.toList.take (k + 1) = s.data.toList.take k ++ [s[k]] := by
  rw [List.take_succ_eq_append_getElem (by simpa using h)]; rfl

set_option maxRecDepth 100000 in
set_option maxHeartbeats 1000000 in
theorem flow_any (c : Nat) (w : World) (_hc : c < 256) :
    Calls Tryd.prog 51 #[.int .u8 c] w fun e w' => e = .returned (.bool (flowB c)) ∧ w = w' := by
  go_enter Tryd.func51, Tryd.ntmps51
  go_wp2
  all_goals
    go_ret
    exact ⟨ret_b (by rw [Bool.eq_iff_iff]; simp only [beq_iff_eq, beq_eq_false_iff_ne, ne_eq, flowB, decide_eq_true_eq] at *; simp <;> omega), rfl⟩

set_option maxRecDepth 100000 in
set_option maxHeartbeats 1000000 in
theorem opens_any (c : Nat) (w : World) (hc : c < 256) :
    Calls Tryd.prog 27 #[.int .u8 c] w fun e w' => e = .returned (.bool (opensB c)) ∧ w = w' := by
  have hf : flowB c = decide (c = 44 ∨ c = 91 ∨ c = 93 ∨ c = 123 ∨ c = 125) := rfl
  have HF := Lib.hid hf
  clear hf
  go_enter Tryd.func27, Tryd.ntmps27
  go_wp2_with (go_at_call 51; refine (flow_any c _ hc).mono ?_; rintro e w' ⟨rfl, rfl⟩)
  all_goals
    go_ret
    exact ⟨ret_b (by have := HF.out; rw [Bool.eq_iff_iff]; simp only [beq_iff_eq, beq_eq_false_iff_ne, ne_eq, opensB, decide_eq_true_eq] at *; simp [this] <;> omega), rfl⟩

set_option maxRecDepth 100000 in
set_option maxHeartbeats 1000000 in
theorem cuts_any (c : Nat) (fl : Bool) (w : World) (hc : c < 256) :
    Calls Tryd.prog 63 #[.int .u8 c, .bool fl] w fun e w' => e = .returned (.bool (cutsB c fl)) ∧ w = w' := by
  by_cases h : c = 32
  · subst h
    go_enter Tryd.func63, Tryd.ntmps63
    go_wp2
    go_ret
    exact ⟨rfl, rfl⟩
  · have k1 : ((c : Int) == 32) = false := by simp; omega
    have k2 : cutsB c fl = (fl && flowB c) := by simp [cutsB, h]
    have K2 := Lib.hid k2
    clear k2
    cases fl with
    | false =>
      go_enter Tryd.func63, Tryd.ntmps63
      go_wp2
      go_ret
      exact ⟨ret_b K2.out.symm, rfl⟩
    | true =>
      go_enter Tryd.func63, Tryd.ntmps63
      go_wp2_with fail
      refine (flow_any c _ hc).mono ?_
      rintro e w' ⟨rfl, rfl⟩
      go_wp2
      go_ret
      exact ⟨ret_b (by rw [K2.out]; simp), rfl⟩
end Go.Proofs.YtcmdpablbadloaaDoor
