/- The walk of CharBytes. -/
import Derived.Test.YtjcfnldknpalkaaDoorAwake3
namespace Go.Proofs.YtjcfnldknpalkaaDoor
open Go.RowKit

set_option maxRecDepth 100000 in
set_option maxHeartbeats 4000000 in
theorem charBytes_walk (w : World) :
    Calls Tryd.prog 3 #[] w fun e w' => e = .returned (.bool true) ∧ Below w.heap.size w w' := by
  go_enter Tryd.func3, Tryd.ntmps3
  go_wp2_with fail
  go_loop [3] (fun j => ∃ k : Nat, j = .int .i64 k ∧ k ≤ 256) (fun j => 256 - (intOf j).toNat)
  case atStart => exact ⟨0, rfl, by omega⟩
  case round =>
    obtain ⟨k, rfl, hk⟩ := hrel
    by_cases hlt : k < 256
    · have t1 : ∀ b : Bool, (b != b) = false := by simp
      have W1 := Lib.hid (t1 (wordB k))
      have W2 := Lib.hid (t1 (flowB k))
      have W3 := Lib.hid (t1 (opensB k))
      clear t1
      go_wp2_with fail
      refine (word_any k _ hlt).mono ?_
      rintro e w' ⟨rfl, rfl⟩
      go_wp2_with fail
      refine (refWord_any k _ hlt).mono ?_
      rintro e w' ⟨rfl, rfl⟩
      have w1 := W1.out
      go_wp2_with fail
      refine (flow_any k _ hlt).mono ?_
      rintro e w' ⟨rfl, rfl⟩
      go_wp2_with fail
      refine (refFlow_any k _ hlt).mono ?_
      rintro e w' ⟨rfl, rfl⟩
      have w2 := W2.out
      go_wp2_with fail
      refine (opens_any k _ hlt).mono ?_
      rintro e w' ⟨rfl, rfl⟩
      go_wp2_with fail
      refine (refOpens_any k _ hlt).mono ?_
      rintro e w' ⟨rfl, rfl⟩
      have w3 := W3.out
      go_wp2
      go_round
      case rel => exact ⟨k + 1, by go_num, by omega⟩
      case measure => simp [intOf]; omega
    · go_wp2_with fail
      refine (awake3_any _).mono ?_
      rintro e w1 ⟨rfl, hb⟩
      go_wp2
      go_ret
      exact ⟨rfl, hb⟩
end Go.Proofs.YtjcfnldknpalkaaDoor
