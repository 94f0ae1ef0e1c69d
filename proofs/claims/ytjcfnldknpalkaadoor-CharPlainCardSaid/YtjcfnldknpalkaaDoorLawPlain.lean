/- The walks of CharPlain and CharEnds. -/
import Derived.Test.YtjcfnldknpalkaaDoorAwake3
import Derived.Test.YtjcfnldknpalkaaDoorRefYes
namespace Go.Proofs.YtjcfnldknpalkaaDoor
open Go.RowKit

set_option maxRecDepth 100000 in
set_option maxHeartbeats 4000000 in
theorem charPlain_walk (s : ByteArray) (i : Int) (fl : Bool) (hs : s.size ≤ maxLen) (_hi : (Lit.int .i64 i).wf = true) (w : World) :
    Calls Tryd.prog 5 #[.string s, .int .i64 i, .bool fl] w fun e w' => e = .returned (.bool true) ∧ Below w.heap.size w w' := by
  unfold maxLen at hs
  by_cases hl : 300 < s.size
  · go_enter Tryd.func5, Tryd.ntmps5
    go_wp2_with fail
    refine (awake3_any _).mono ?_
    rintro e w1 ⟨rfl, hb⟩
    go_wp2
    go_ret
    exact ⟨rfl, hb⟩
  by_cases ho : i < 0 ∨ (s.size : Int) ≤ i
  · have HO := Lib.hid ho
    clear ho
    go_enter Tryd.func5, Tryd.ntmps5
    go_wp2_with fail
    refine (plain_out s i fl _ HO.out (by omega)).mono ?_
    rintro e w' ⟨rfl, rfl⟩
    go_wp2_with fail
    refine (refPlain_out s i fl _ HO.out (by omega)).mono ?_
    rintro e w' ⟨rfl, rfl⟩
    go_wp2_with fail
    refine (awake3_any _).mono ?_
    rintro e w1 ⟨rfl, hb⟩
    go_wp2_with fail
    refine (parts_out s i fl _ HO.out (by omega)).mono ?_
    rintro e w' ⟨rfl, rfl⟩
    go_wp2_with fail
    refine (refParts_out s i fl _ HO.out (by omega)).mono ?_
    rintro e w' ⟨rfl, rfl⟩
    go_wp2
    go_ret
    exact ⟨rfl, hb⟩
  obtain ⟨j, rfl⟩ : ∃ j : Nat, i = j := ⟨i.toNat, by omega⟩
  have hj : j < s.size := by omega
  have hpp := Lib.hid (show (partsB s j fl == partsB s j fl) = true by simp)
  have hpn := Lib.hid (show ((plainE s fl j : Int) == (plainE s fl j : Int)) = true by simp)
  clear ho
  cases hb : beginsB s j fl with
  | true =>
    have HB := Lib.hid hb
    clear hb
    go_enter Tryd.func5, Tryd.ntmps5
    go_wp2_with fail
    refine (plain_yes s j fl _ hj (by omega) HB).mono ?_
    rintro e w' ⟨rfl, rfl⟩
    go_wp2_with fail
    refine (refPlain_yes s j fl _ hj (by omega) HB.out).mono ?_
    rintro e w' ⟨rfl, rfl⟩
    go_wp2_with fail
    refine (awake3_any _).mono ?_
    rintro e w1 ⟨rfl, hb⟩
    have q1 := hpn.out
    go_wp2_with fail
    refine (parts_any s j fl _ hj (by omega)).mono ?_
    rintro e w' ⟨rfl, rfl⟩
    go_wp2_with fail
    refine (refParts_any s j fl _ hj (by omega)).mono ?_
    rintro e w' ⟨rfl, rfl⟩
    have q2 := hpp.out
    go_wp2
    go_ret
    exact ⟨rfl, hb⟩
  | false =>
    have HB := Lib.hid hb
    clear hb
    go_enter Tryd.func5, Tryd.ntmps5
    go_wp2_with fail
    refine (plain_no s j fl _ hj (by omega) HB).mono ?_
    rintro e w' ⟨rfl, rfl⟩
    go_wp2_with fail
    refine (refPlain_no s j fl _ hj (by omega) HB.out).mono ?_
    rintro e w' ⟨rfl, rfl⟩
    go_wp2_with fail
    refine (awake3_any _).mono ?_
    rintro e w1 ⟨rfl, hb⟩
    go_wp2_with fail
    refine (parts_any s j fl _ hj (by omega)).mono ?_
    rintro e w' ⟨rfl, rfl⟩
    go_wp2_with fail
    refine (refParts_any s j fl _ hj (by omega)).mono ?_
    rintro e w' ⟨rfl, rfl⟩
    have q2 := hpp.out
    go_wp2
    go_ret
    exact ⟨rfl, hb⟩
end Go.Proofs.YtjcfnldknpalkaaDoor
