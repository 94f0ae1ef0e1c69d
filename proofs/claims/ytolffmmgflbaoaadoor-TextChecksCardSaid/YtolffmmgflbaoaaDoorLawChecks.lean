/- The walk of TextChecks. -/
import Derived.Test.YtolffmmgflbaoaaDoorAwake
namespace Go.Proofs.YtolffmmgflbaoaaDoor
open Go.RowKit

set_option maxRecDepth 100000 in
set_option maxHeartbeats 1000000 in
theorem textChecks_walk (s : ByteArray) (hs : s.size ≤ maxLen) (w : World) :
    Calls Tryd.prog 3 #[.string s] w fun e w' => e = .returned (.bool true) ∧ Below w.heap.size w w' := by
  obtain ⟨c, hc⟩ : ∃ c, ck s = c := ⟨_, rfl⟩
  have HC := Lib.hid hc
  clear hc
  go_enter Tryd.func3, Tryd.ntmps3
  go_wp2_with fail
  refine (refCheck_any s _ hs).mono ?_
  rintro e w1 ⟨rfl, n, rfl⟩
  rw [HC.out]
  go_wp2_with fail
  refine (awake_any _).mono ?_
  rintro e w2 ⟨rfl, hb⟩
  have hb1 : Below w.heap.size w w2 := (below_drewN (Below.refl _ _) n).trans (hb.mono (by simp))
  go_wp2_with fail
  refine (check_any s _ hs).mono ?_
  rintro e w3 ⟨rfl, hb2⟩
  rw [HC.out]
  have hb3 : Below w.heap.size w w3 := hb1.trans (hb2.mono hb1.size)
  go_wp2_with fail
  refine (fault_any _ _ _).mono ?_
  rintro e w4 ⟨rfl, hb4⟩
  have hb5 : Below w.heap.size w w4 := hb3.trans (hb4.mono hb3.size)
  have t1 : ((c.1 : Int) == c.1) = true := by simp
  have t2 : ((c.2 : Int) == c.2) = true := by simp
  go_wp2
  go_ret
  exact ⟨rfl, hb5⟩
end Go.Proofs.YtolffmmgflbaoaaDoor
