/- The walks of hidden and Shown (as in the texts of layer 3, without the document's). -/
import Derived.Test.YtcmdpablbadloaaDoorShw
import Derived.Test.YtcmdpablbadloaaDoorSign
import Derived.Test.YtcmdpablbadloaaDoorLetter
import Derived.Test.YtcmdpablbadloaaDoorShelf
namespace Go.Proofs.YtcmdpablbadloaaDoor
open Go.RowKit

set_option maxRecDepth 100000 in
set_option maxHeartbeats 1000000 in
theorem hidden_any (c : Nat) (w : World) (hc : c ≤ 1114111) :
    Calls Tryd.prog 40 #[.int .i32 c] w fun e w' => e = .returned (.bool (hidP c)) ∧ w = w' := by
  go_enter Tryd.func40, Tryd.ntmps40
  go_wp2
  all_goals
    go_ret
    exact ⟨ret_b (by rw [Bool.eq_iff_iff]; simp [hidP]; omega), rfl⟩
theorem hidden_pred (w : World) : PredAtRunes Tryd.prog 40 #[] hidP w := by
  intro W x hx _
  exact (hidden_any x W hx).mono fun e w' ⟨h1, h2⟩ => ⟨h1, 0, by rw [← h2]; rfl⟩

set_option maxRecDepth 100000 in
set_option maxHeartbeats 1000000 in
theorem shown_any (s : ByteArray) (w : World) (hs : s.size ≤ 3000) (hT : Lib.Utf8Tabs 0 1 w) :
    Calls Tryd.prog 20 #[.string s] w fun e w' => e = .returned (.bool (shownB s)) ∧ Below w.heap.size w w' := by
  have he := shown_eq s
  have eg : ∀ args w, (callFunc 40 args).run Tryd.prog w = .ok (.enter 40 args) w := enters_of Tryd.func40 (by kernel_rfl) rfl
  cases hv : Lib.validD s.data.toList with
  | false =>
    have HE := Lib.hid (show shownB s = false by rw [he, hv]; rfl)
    have HV := Lib.hid hv
    clear he hv
    go_enter Tryd.func20, Tryd.ntmps20
    go_wp2_with fail
    refine (Tryd.utf8_ValidString s _ (by omega) hT).mono ?_
    rintro e w1 ⟨rfl, hb⟩
    rw [HV.out]
    go_wp2
    go_ret
    exact ⟨ret_b HE.out.symm, hb⟩
  | true =>
    have HE := Lib.hid (show shownB s = !decide (0 ≤ Lib.idxFunc hidP true s) by rw [he, hv]; simp)
    have HV := Lib.hid hv
    clear he hv
    go_enter Tryd.func20, Tryd.ntmps20
    go_wp2_with fail
    refine (Tryd.utf8_ValidString s _ (by omega) hT).mono ?_
    rintro e w1 ⟨rfl, hb⟩
    rw [HV.out]
    go_wp2_with fail
    refine (Tryd.strings_ContainsFunc_runes 40 #[] eg hidP s _ (hidden_pred _)).mono ?_
    rintro e w2 ⟨rfl, hb2⟩
    rw [show decide (0 ≤ Lib.idxFunc hidP true s) = !shownB s by rw [HE.out]; simp]
    go_wp2
    go_ret
    exact ⟨by simp, hb.trans (hb2.mono hb.size)⟩
end Go.Proofs.YtcmdpablbadloaaDoor
