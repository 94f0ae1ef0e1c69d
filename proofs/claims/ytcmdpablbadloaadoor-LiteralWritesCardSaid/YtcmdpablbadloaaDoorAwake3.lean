
/- The walk of layer 3's Awake: the document's example. -/
import Derived.Test.YtcmdpablbadloaaDoorAwakeText
import Derived.Test.YtcmdpablbadloaaDoorPlain
import Derived.Test.YtcmdpablbadloaaDoorEasy
namespace Go.Proofs.YtcmdpablbadloaaDoor
open Go.RowKit

def ex1 : ByteArray := ⟨#[97, 32, 98, 58, 32, 99]⟩
theorem ex1_begins : beginsB ex1 0 false = true := by decide +kernel
theorem ex1_plain : plainE ex1 false 0 = 3 := by decide +kernel
theorem ex2_name : nameB ⟨#[97, 45, 49]⟩ = true := by decide +kernel
theorem ex3_easy : easyB ⟨#[97, 46, 98]⟩ = true := by decide +kernel
theorem ex4_opens : opensB 38 = true := by decide +kernel

set_option maxRecDepth 100000 in
set_option maxHeartbeats 1000000 in
theorem awake3_any (w : World) :
    Calls Tryd.prog 12 #[] w fun e w' => e = .returned (.bool true) ∧ Below w.heap.size w w' := by
  go_enter Tryd.func12, Tryd.ntmps12
  go_wp2_with fail
  refine (plain_yes ex1 0 false _ (by decide) (by decide) (Lib.hid ex1_begins)).mono ?_
  rintro e w' ⟨rfl, rfl⟩
  rw [ex1_plain]
  go_wp2_with fail
  refine (awake2_any _).mono ?_
  rintro e w1 ⟨rfl, hb⟩
  go_wp2_with fail
  refine (name_any ⟨#[97, 45, 49]⟩ _ (by decide)).mono ?_
  rintro e w' ⟨rfl, rfl⟩
  rw [ex2_name]
  go_wp2_with fail
  refine (easy_any ⟨#[97, 46, 98]⟩ _ (by decide)).mono ?_
  rintro e w' ⟨rfl, rfl⟩
  rw [ex3_easy]
  go_wp2_with fail
  refine (opens_any 38 _ (by decide)).mono ?_
  rintro e w' ⟨rfl, rfl⟩
  rw [ex4_opens]
  go_wp2
  go_ret
  exact ⟨rfl, hb⟩
end Go.Proofs.YtcmdpablbadloaaDoor
