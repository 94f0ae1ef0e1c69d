/- The walk of TextPlaces. -/
import Derived.Test.YtolffmmgflbaoaaDoorPlace
import Derived.Test.YtolffmmgflbaoaaDoorAwake
namespace Go.Proofs.YtolffmmgflbaoaaDoor
open Go.RowKit

set_option maxRecDepth 100000 in
set_option maxHeartbeats 1000000 in
theorem textPlaces_walk (s : ByteArray) (p : Int) (hs : s.size ≤ maxLen) (_hp : (Lit.int .i64 p).wf = true) (w : World) :
    Calls Tryd.prog 4 #[.string s, .int .i64 p] w fun e w' => e = .returned (.bool true) ∧ Below w.heap.size w w' := by
  have hs' := hs
  unfold maxLen at hs'
  by_cases hl : 2000 < s.size
  · go_enter Tryd.func4, Tryd.ntmps4
    go_wp2_with fail
    refine (awake_any _).mono ?_
    rintro e w1 ⟨rfl, hb⟩
    go_wp2
    go_ret
    exact ⟨rfl, hb⟩
  obtain ⟨a, b, h1, h2⟩ : ∃ a b : Nat, (∀ w, Calls Tryd.prog 11 #[.string s, .int .i64 p] w fun e w' => e = .returned (.tuple #[.int .i64 a, .int .i64 b]) ∧ Below w.heap.size w w') ∧
      (∀ w, Calls Tryd.prog 12 #[.string s, .int .i64 p] w fun e w' => e = .returned (.tuple #[.int .i64 a, .int .i64 b]) ∧ Below w.heap.size w w') := by
    by_cases hp : p < 0 ∨ (s.size : Int) < p
    · exact ⟨0, 0, fun w => place_out s p w hs hp, fun w => refPlace_out s p w hs hp⟩
    · obtain ⟨k, rfl⟩ := Int.eq_ofNat_of_zero_le (show 0 ≤ p by omega)
      exact ⟨_, _, fun w => place_in s k w (by omega) (by omega), fun w => refPlace_in s k w (by omega) (by omega)⟩
  have H1 := Lib.hid h1
  have H2 := Lib.hid h2
  clear h1 h2
  go_enter Tryd.func4, Tryd.ntmps4
  go_wp2_with fail
  refine (H1.out _).mono ?_
  rintro e w1 ⟨rfl, hb1⟩
  go_wp2_with fail
  refine (H2.out _).mono ?_
  rintro e w2 ⟨rfl, hb2⟩
  have hb2' : Below w.heap.size w w2 := hb1.trans (hb2.mono hb1.size)
  go_wp2_with fail
  refine (awake_any _).mono ?_
  rintro e w3 ⟨rfl, hb3⟩
  have hb3' : Below w.heap.size w w3 := hb2'.trans (hb3.mono hb2'.size)
  have t1 : ((a : Int) == a) = true := by simp
  have t2 : ((b : Int) == b) = true := by simp
  go_wp2
  go_ret
  exact ⟨rfl, hb3'⟩
end Go.Proofs.YtolffmmgflbaoaaDoor
