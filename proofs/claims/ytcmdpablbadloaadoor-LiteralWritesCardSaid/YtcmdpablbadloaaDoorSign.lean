/- The walks of the document's Sign and of the program's sign: may a character stand in a text? -/
import Derived.Test.YtcmdpablbadloaaDoorRows
import Derived.WalkKit
import Derived.WalkSpells
import Derived.WalkLawsBesides
import Derived.Deep.QuietTactic
import Derived.BigQuiet
namespace Go.Proofs.YtcmdpablbadloaaDoor
open Go.RowKit

/-- May a character stand in a text? -/
def signB (c : Nat) : Bool := decide (c = 10 ∨ 32 ≤ c ∧ c ≤ 126 ∨ 160 ≤ c ∧ c ≤ 55295 ∨ 57344 ≤ c ∧ c ≤ 65533 ∧ c ≠ 65279 ∨ 65536 ≤ c ∧ c ≤ 1114111)
theorem signB_true {c : Nat} (h : c = 10 ∨ 32 ≤ c ∧ c ≤ 126 ∨ 160 ≤ c ∧ c ≤ 55295 ∨ 57344 ≤ c ∧ c ≤ 65533 ∧ c ≠ 65279 ∨ 65536 ≤ c ∧ c ≤ 1114111) : signB c = true := decide_eq_true h
theorem signB_false {c : Nat} (h : ¬ (c = 10 ∨ 32 ≤ c ∧ c ≤ 126 ∨ 160 ≤ c ∧ c ≤ 55295 ∨ 57344 ≤ c ∧ c ≤ 65533 ∧ c ≠ 65279 ∨ 65536 ≤ c ∧ c ≤ 1114111)) : signB c = false := decide_eq_false h
theorem ret_bool {a b : Bool} (h : a = b) : Ending.returned (.bool a) = .returned (.bool b) := by rw [h]
theorem sign_cases (c : Nat) : c < 10 ∨ c = 10 ∨ (10 < c ∧ c < 32) ∨ (32 ≤ c ∧ c ≤ 126) ∨ (126 < c ∧ c < 160) ∨ (160 ≤ c ∧ c ≤ 55295) ∨ (55295 < c ∧ c < 57344) ∨ (57344 ≤ c ∧ c < 65279) ∨ c = 65279 ∨ (65279 < c ∧ c ≤ 65533) ∨ (65533 < c ∧ c < 65536) ∨ (65536 ≤ c ∧ c ≤ 1114111) ∨ 1114111 < c := by omega

set_option maxRecDepth 100000 in
set_option maxHeartbeats 1000000 in
theorem refSign_0 (c : Nat) (w : World) (_hc : c ≤ 2147483647) (h : c < 10) :
    Calls Tryd.prog 43 #[.int .i64 c] w fun e w' => e = .returned (.bool false) ∧ w = w' := by
  have k1 : ((c : Int) == 10) = false := by simp; omega
  have k2 : ((c : Int) != 65279) = true := by simp; omega
  have k3 : ((c : Int) == 65279) = false := by simp; omega
  go_enter Tryd.func43, Tryd.ntmps43
  go_wp2
  go_ret
  exact ⟨ret_bool (by simp <;> omega), rfl⟩
set_option maxRecDepth 100000 in
set_option maxHeartbeats 1000000 in
theorem refSign_1 (c : Nat) (w : World) (_hc : c ≤ 2147483647) (h : 10 < c) (h' : c < 32) :
    Calls Tryd.prog 43 #[.int .i64 c] w fun e w' => e = .returned (.bool false) ∧ w = w' := by
  have k1 : ((c : Int) == 10) = false := by simp; omega
  have k2 : ((c : Int) != 65279) = true := by simp; omega
  have k3 : ((c : Int) == 65279) = false := by simp; omega
  go_enter Tryd.func43, Tryd.ntmps43
  go_wp2
  go_ret
  exact ⟨ret_bool (by simp <;> omega), rfl⟩
set_option maxRecDepth 100000 in
set_option maxHeartbeats 1000000 in
theorem refSign_2 (c : Nat) (w : World) (_hc : c ≤ 2147483647) (h : 32 ≤ c) (h' : c ≤ 126) :
    Calls Tryd.prog 43 #[.int .i64 c] w fun e w' => e = .returned (.bool true) ∧ w = w' := by
  have k1 : ((c : Int) == 10) = false := by simp; omega
  have k2 : ((c : Int) != 65279) = true := by simp; omega
  have k3 : ((c : Int) == 65279) = false := by simp; omega
  go_enter Tryd.func43, Tryd.ntmps43
  go_wp2
  go_ret
  exact ⟨ret_bool (by simp <;> omega), rfl⟩
set_option maxRecDepth 100000 in
set_option maxHeartbeats 1000000 in
theorem refSign_3 (c : Nat) (w : World) (_hc : c ≤ 2147483647) (h : 126 < c) (h' : c < 160) :
    Calls Tryd.prog 43 #[.int .i64 c] w fun e w' => e = .returned (.bool false) ∧ w = w' := by
  have k1 : ((c : Int) == 10) = false := by simp; omega
  have k2 : ((c : Int) != 65279) = true := by simp; omega
  have k3 : ((c : Int) == 65279) = false := by simp; omega
  go_enter Tryd.func43, Tryd.ntmps43
  go_wp2
  go_ret
  exact ⟨ret_bool (by simp <;> omega), rfl⟩
set_option maxRecDepth 100000 in
set_option maxHeartbeats 1000000 in
theorem refSign_4 (c : Nat) (w : World) (_hc : c ≤ 2147483647) (h : 160 ≤ c) (h' : c ≤ 55295) :
    Calls Tryd.prog 43 #[.int .i64 c] w fun e w' => e = .returned (.bool true) ∧ w = w' := by
  have k1 : ((c : Int) == 10) = false := by simp; omega
  have k2 : ((c : Int) != 65279) = true := by simp; omega
  have k3 : ((c : Int) == 65279) = false := by simp; omega
  go_enter Tryd.func43, Tryd.ntmps43
  go_wp2
  go_ret
  exact ⟨ret_bool (by simp <;> omega), rfl⟩
set_option maxRecDepth 100000 in
set_option maxHeartbeats 1000000 in
theorem refSign_5 (c : Nat) (w : World) (_hc : c ≤ 2147483647) (h : 55295 < c) (h' : c < 57344) :
    Calls Tryd.prog 43 #[.int .i64 c] w fun e w' => e = .returned (.bool false) ∧ w = w' := by
  have k1 : ((c : Int) == 10) = false := by simp; omega
  have k2 : ((c : Int) != 65279) = true := by simp; omega
  have k3 : ((c : Int) == 65279) = false := by simp; omega
  go_enter Tryd.func43, Tryd.ntmps43
  go_wp2
  go_ret
  exact ⟨ret_bool (by simp <;> omega), rfl⟩
set_option maxRecDepth 100000 in
set_option maxHeartbeats 1000000 in
theorem refSign_6 (c : Nat) (w : World) (_hc : c ≤ 2147483647) (h : 57344 ≤ c) (h' : c < 65279) :
    Calls Tryd.prog 43 #[.int .i64 c] w fun e w' => e = .returned (.bool true) ∧ w = w' := by
  have k1 : ((c : Int) == 10) = false := by simp; omega
  have k2 : ((c : Int) != 65279) = true := by simp; omega
  have k3 : ((c : Int) == 65279) = false := by simp; omega
  go_enter Tryd.func43, Tryd.ntmps43
  go_wp2
  go_ret
  exact ⟨ret_bool (by simp <;> omega), rfl⟩
set_option maxRecDepth 100000 in
set_option maxHeartbeats 1000000 in
theorem refSign_7 (c : Nat) (w : World) (_hc : c ≤ 2147483647) (h : 65279 < c) (h' : c ≤ 65533) :
    Calls Tryd.prog 43 #[.int .i64 c] w fun e w' => e = .returned (.bool true) ∧ w = w' := by
  have k1 : ((c : Int) == 10) = false := by simp; omega
  have k2 : ((c : Int) != 65279) = true := by simp; omega
  have k3 : ((c : Int) == 65279) = false := by simp; omega
  go_enter Tryd.func43, Tryd.ntmps43
  go_wp2
  go_ret
  exact ⟨ret_bool (by simp <;> omega), rfl⟩
set_option maxRecDepth 100000 in
set_option maxHeartbeats 1000000 in
theorem refSign_8 (c : Nat) (w : World) (_hc : c ≤ 2147483647) (h : 65533 < c) (h' : c < 65536) :
    Calls Tryd.prog 43 #[.int .i64 c] w fun e w' => e = .returned (.bool false) ∧ w = w' := by
  have k1 : ((c : Int) == 10) = false := by simp; omega
  have k2 : ((c : Int) != 65279) = true := by simp; omega
  have k3 : ((c : Int) == 65279) = false := by simp; omega
  go_enter Tryd.func43, Tryd.ntmps43
  go_wp2
  go_ret
  exact ⟨ret_bool (by simp <;> omega), rfl⟩
set_option maxRecDepth 100000 in
set_option maxHeartbeats 1000000 in
theorem refSign_9 (c : Nat) (w : World) (_hc : c ≤ 2147483647) (h : 65536 ≤ c) (h' : c ≤ 1114111) :
    Calls Tryd.prog 43 #[.int .i64 c] w fun e w' => e = .returned (.bool true) ∧ w = w' := by
  have k1 : ((c : Int) == 10) = false := by simp; omega
  have k2 : ((c : Int) != 65279) = true := by simp; omega
  have k3 : ((c : Int) == 65279) = false := by simp; omega
  go_enter Tryd.func43, Tryd.ntmps43
  go_wp2
  go_ret
  exact ⟨ret_bool (by simp <;> omega), rfl⟩
set_option maxRecDepth 100000 in
set_option maxHeartbeats 1000000 in
theorem refSign_10 (c : Nat) (w : World) (_hc : c ≤ 2147483647) (h : 1114111 < c) :
    Calls Tryd.prog 43 #[.int .i64 c] w fun e w' => e = .returned (.bool false) ∧ w = w' := by
  have k1 : ((c : Int) == 10) = false := by simp; omega
  have k2 : ((c : Int) != 65279) = true := by simp; omega
  have k3 : ((c : Int) == 65279) = false := by simp; omega
  go_enter Tryd.func43, Tryd.ntmps43
  go_wp2
  go_ret
  exact ⟨ret_bool (by simp <;> omega), rfl⟩
set_option maxRecDepth 100000 in
theorem refSign_c10 (w : World) :
    Calls Tryd.prog 43 #[.int .i64 10] w fun e w' => e = .returned (.bool true) ∧ w = w' := by
  go_enter Tryd.func43, Tryd.ntmps43
  go_wp2
  go_ret
  exact ⟨ret_bool (by simp <;> omega), rfl⟩
set_option maxRecDepth 100000 in
theorem refSign_c65279 (w : World) :
    Calls Tryd.prog 43 #[.int .i64 65279] w fun e w' => e = .returned (.bool false) ∧ w = w' := by
  go_enter Tryd.func43, Tryd.ntmps43
  go_wp2
  go_ret
  exact ⟨ret_bool (by simp <;> omega), rfl⟩
theorem refSign_any (c : Nat) (w : World) (hc : c ≤ 2147483647) :
    Calls Tryd.prog 43 #[.int .i64 c] w fun e w' => e = .returned (.bool (signB c)) ∧ w = w' := by
  rcases sign_cases c with h | rfl | ⟨h, h'⟩ | ⟨h, h'⟩ | ⟨h, h'⟩ | ⟨h, h'⟩ | ⟨h, h'⟩ | ⟨h, h'⟩ | rfl | ⟨h, h'⟩ | ⟨h, h'⟩ | ⟨h, h'⟩ | h
  · rw [signB_false (by omega)]; exact refSign_0 c w hc h
  · rw [signB_true (by omega)]; exact refSign_c10 w
  · rw [signB_false (by omega)]; exact refSign_1 c w hc h h'
  · rw [signB_true (by omega)]; exact refSign_2 c w hc h h'
  · rw [signB_false (by omega)]; exact refSign_3 c w hc h h'
  · rw [signB_true (by omega)]; exact refSign_4 c w hc h h'
  · rw [signB_false (by omega)]; exact refSign_5 c w hc h h'
  · rw [signB_true (by omega)]; exact refSign_6 c w hc h h'
  · rw [signB_false (by omega)]; exact refSign_c65279 w
  · rw [signB_true (by omega)]; exact refSign_7 c w hc h h'
  · rw [signB_false (by omega)]; exact refSign_8 c w hc h h'
  · rw [signB_true (by omega)]; exact refSign_9 c w hc h h'
  · rw [signB_false (by omega)]; exact refSign_10 c w hc h

end Go.Proofs.YtcmdpablbadloaaDoor
