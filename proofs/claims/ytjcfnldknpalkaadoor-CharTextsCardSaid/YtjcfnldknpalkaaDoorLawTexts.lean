/- The walk of CharTexts. -/
import Derived.Test.YtjcfnldknpalkaaDoorAwake3
import Derived.Test.YtjcfnldknpalkaaDoorRefEasy
import Derived.Test.YtjcfnldknpalkaaDoorShown
import Derived.Test.YtjcfnldknpalkaaDoorTabs
namespace Go.Proofs.YtjcfnldknpalkaaDoor
open Go.RowKit

set_option maxRecDepth 100000 in
set_option maxHeartbeats 4000000 in
theorem charTexts_walk (s : ByteArray) (hs : s.size ≤ maxLen) (w : World) (hT : Lib.Utf8Tabs 0 1 w) :
    Calls Tryd.prog 4 #[.string s] w fun e w' => e = .returned (.bool true) ∧ Below w.heap.size w w' := by
  unfold maxLen at hs
  have HT := Lib.hid hT
  clear hT
  by_cases hl : 2000 < s.size
  · go_enter Tryd.func4, Tryd.ntmps4
    go_wp2_with fail
    refine (awake3_any _).mono ?_
    rintro e w1 ⟨rfl, hb⟩
    go_wp2
    go_ret
    exact ⟨rfl, hb⟩
  have t1 : ∀ b : Bool, (b == b) = true := by simp
  have W1 := Lib.hid (t1 (nameB s))
  have W2 := Lib.hid (t1 (easyB s))
  have W3 := Lib.hid (t1 (shownB s))
  clear t1
  go_enter Tryd.func4, Tryd.ntmps4
  go_wp2_with fail
  refine (awake3_any _).mono ?_
  rintro e w1 ⟨rfl, hb⟩
  go_wp2_with fail
  refine (name_any s _ (by omega)).mono ?_
  rintro e w' ⟨rfl, rfl⟩
  go_wp2_with fail
  refine (refName_any s _ (by omega)).mono ?_
  rintro e w' ⟨rfl, rfl⟩
  have w1 := W1.out
  go_wp2_with fail
  refine (easy_any s _ (by omega)).mono ?_
  rintro e w' ⟨rfl, rfl⟩
  go_wp2_with fail
  refine (refEasy_any s _ (by omega)).mono ?_
  rintro e w' ⟨rfl, rfl⟩
  have w2 := W2.out
  go_wp2_with fail
  refine (shown_any s _ (by omega) (Utf8Tabs_below HT.out hb)).mono ?_
  rintro e w2 ⟨rfl, hb2⟩
  have hb3 := hb.trans (hb2.mono hb.size)
  go_wp2_with fail
  refine (refShown_any s _ (by omega)).mono ?_
  rintro e w' ⟨rfl, n, rfl⟩
  have w3 := W3.out
  go_wp2
  go_ret
  exact ⟨rfl, bel_drewN hb3 n⟩
end Go.Proofs.YtjcfnldknpalkaaDoor
