/- The walk of layer 6's Awake: the document's example. -/
import Derived.Test.YtcmdpablbadloaaDoorPFit
import Derived.Test.YtcmdpablbadloaaDoorAwake3
namespace Go.Proofs.YtcmdpablbadloaaDoor
open Go.RowKit

theorem ex6_hd : hdN ⟨#[97, 10, 98, 10]⟩ = [124] := by decide +kernel
theorem ex6_wr : wrB (ind 2) ⟨#[97, 10, 98, 10]⟩ = [⟨#[32, 32, 97]⟩, ⟨#[32, 32, 98]⟩] := by decide +kernel
theorem ex6_fit : fitB shownB ⟨#[97, 10, 98, 10]⟩ = true := by decide +kernel

set_option maxRecDepth 100000 in
set_option maxHeartbeats 2000000 in
theorem awake6_any (w : World) (hT : Lib.Utf8Tabs 0 1 w) :
    Calls Tryd.prog 5 #[] w fun e w' => e = .returned (.bool true) ∧ Below w.heap.size w w' := by
  have HT := Lib.hid hT
  have hW := write_any ⟨#[97, 10, 98, 10]⟩ 2 w (by decide)
  rw [ex6_hd, ex6_wr] at hW
  clear hT
  go_enter Tryd.func5, Tryd.ntmps5
  go_wp2_with fail
  refine hW.mono ?_
  rintro e w1 ⟨v, rfl, hown, hb1⟩
  obtain ⟨g, cap, rfl, hnc, hcm, hg, hgl, hc⟩ := own_cellsS hown (by decide)
  have c0 : w1.cell? ⟨g, 0, none⟩ = some (.string ⟨#[32, 32, 97]⟩) := hc 0 _ rfl
  have c1 : w1.cell? ⟨g, 1, none⟩ = some (.string ⟨#[32, 32, 98]⟩) := hc 1 _ rfl
  clear hc hown hW
  go_wp2_with fail
  refine (awake3_any _).mono ?_
  rintro e w2 ⟨rfl, hb2⟩
  have d0 := (hb2.cell (p := ⟨g, 0, none⟩) hgl).trans c0
  have d1 := (hb2.cell (p := ⟨g, 1, none⟩) hgl).trans c1
  have hB2 := hb1.trans (hb2.mono hb1.size)
  have hF := fits_any ⟨#[97, 10, 98, 10]⟩ w2 (by decide) (Utf8Tabs_below HT.out hB2)
  rw [ex6_fit] at hF
  clear c0 c1 hb1 hb2
  go_wp2_with fail
  refine hF.mono ?_
  rintro e w3 ⟨rfl, hb3⟩
  have hB3 := hB2.trans (hb3.mono hB2.size)
  clear d0 d1 hF hb3 hB2
  go_wp2
  go_ret
  exact ⟨rfl, hB3⟩
end Go.Proofs.YtcmdpablbadloaaDoor
