/- The walk of Awake: the document's example. -/
import Derived.Test.YtplgcegpmebejaaDoorWords
namespace Go.Proofs.YtplgcegpmebejaaDoor
open Go.RowKit

def exWay : List (ByteArray × Int) := [(⟨#[97]⟩, 1), (⟨#[98]⟩, 2)]
theorem exWay_is : .iface 47 (.agg #[.string ⟨#[97]⟩, .int .i64 1, .iface 47 (.agg #[.string ⟨#[98]⟩, .int .i64 2, .iface 35 (.agg #[.int .i64 13, .int .i64 7])])]) = wv (faultV 13 7) exWay := rfl

set_option maxRecDepth 100000 in
set_option maxHeartbeats 2000000 in
theorem awake_any (w : World) (hg : ErrVar w) :
    Calls Tryd.prog 8 #[] w fun e w' => e = .returned (.bool true) ∧ Below w.heap.size w w' := by
  have HG := Lib.hid hg
  clear hg
  go_enter Tryd.func8, Tryd.ntmps8
  go_wp2_with fail
  refine (under_any _ _ _ _ _).mono ?_
  rintro e w' ⟨rfl, rfl⟩
  go_wp2_with fail
  refine (under_any _ _ _ _ _).mono ?_
  rintro e w' ⟨rfl, rfl⟩
  go_wp2_with fail
  rw [exWay_is]
  refine (words_any _ (end_fault 13 7) exWay (by decide) (by decide) _).mono ?_
  rintro e w1 ⟨v, rfl, hown, hb⟩
  obtain ⟨g, cap, rfl, hnc, hcm, hgg, hgl, hc⟩ := own_cells hown (by decide)
  have c0 : w1.cell? ⟨g, 0, none⟩ = some (.string ⟨#[97]⟩) := hc 0 _ rfl
  have c1 : w1.cell? ⟨g, 1, none⟩ = some (.string ⟨#[98]⟩) := hc 1 _ rfl
  have hg1 := Lib.hid (HG.out.below hb HG.out.pos)
  have hl2 : exWay.length = 2 := rfl
  rw [hl2] at hnc ⊢
  have C0 := Lib.hid c0
  have C1 := Lib.hid c1
  clear hc hown c0 c1 hl2
  go_wp2_with fail
  refine (of_fault 13 7 exWay _ hg1.out).mono ?_
  rintro e w2 ⟨rfl, hb2⟩
  have hb3 : Below w.heap.size w w2 := hb.trans (hb2.mono hb.size)
  have c0 : w2.cell? ⟨g, 0, none⟩ = some (.string ⟨#[97]⟩) := by rw [hb2.cell (p := ⟨g, 0, none⟩) hgl]; exact C0.out
  have c1 : w2.cell? ⟨g, 1, none⟩ = some (.string ⟨#[98]⟩) := by rw [hb2.cell (p := ⟨g, 1, none⟩) hgl]; exact C1.out
  go_wp2_with fail
  refine (depth_any _ (end_fault 13 7) exWay (by decide) _).mono ?_
  rintro e w3 ⟨rfl, hb4⟩
  have hb5 : Below w.heap.size w w3 := hb3.trans (hb4.mono hb3.size)
  rw [show ((exWay.length : Nat) : Int) = 2 from rfl]
  go_wp2
  go_ret
  exact ⟨rfl, hb5⟩
end Go.Proofs.YtplgcegpmebejaaDoor
