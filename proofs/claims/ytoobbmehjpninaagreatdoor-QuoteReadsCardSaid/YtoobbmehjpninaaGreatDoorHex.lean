/- The document's hex, number, Escape of layer 5. -/
import Derived.Test.YtoobbmehjpninaaGreatDoorHexP
import Derived.Test.YtoobbmehjpninaaGreatDoorRows
import Derived.Test.YtoobbmehjpninaaGreatDoorChr
import Derived.WalkKit
import Derived.WalkSpells
import Derived.WalkLawsBesides
import Derived.Deep.QuietTactic
import Derived.BigQuiet
import Derived.Lib.Hide
namespace Go.Proofs.YtoobbmehjpninaaGreatDoor
open Go.RowKit

set_option maxRecDepth 100000 in
set_option maxHeartbeats 1000000 in
theorem hex_any (c : Nat) (w : World) (hc : c < 256) :
    Calls Tryz.prog 50 #[.int .u8 c] w fun e w' => e = .returned (.int .i64 (hexN c)) ∧ w = w' := by
  go_enter Tryz.func50, Tryz.ntmps50
  go_wp2
  all_goals
    go_ret
    exact ⟨ret_i (by unfold hexN; split <;> (try split) <;> (try split) <;> omega), rfl⟩

set_option maxRecDepth 100000 in
set_option maxHeartbeats 2000000 in
theorem number_any (s : ByteArray) (i n : Nat) (w : World) (hi : i ≤ s.size) (hs : s.size ≤ 10000) (hn : n ≤ 4) :
    Calls Tryz.prog 37 #[.string s, .int .i64 i, .int .i64 n] w fun e w' => e = .returned (.int .i64 (numR s i n)) ∧ w = w' := by
  by_cases hz : s.size < i + n
  · have HR := Lib.hid (show numR s i n = -1 by unfold numR; rw [if_pos hz])
    go_enter Tryz.func37, Tryz.ntmps37
    go_wp2
    go_ret
    exact ⟨ret_i HR.out.symm, rfl⟩
  · have z1 : decide ((s.size : Int) - (i : Int) < (n : Int)) = false := decide_eq_false (by omega)
    go_enter Tryz.func37, Tryz.ntmps37
    have HR := Lib.hid (show numR s i n = match numO s i n with | none => -1 | some v => (v : Int) by unfold numR; rw [if_neg hz]; cases numO s i n <;> rfl)
    go_wp2
    go_loop [7, 8] (fun v j => ∃ k x : Nat, j = .int .i64 k ∧ v = .int .i64 x ∧ k ≤ n ∧ x < 65536 ∧ Hid (numO s i k = some x)) (fun _ j => n - (intOf j).toNat)
    case atStart => exact ⟨0, 0, rfl, rfl, by omega, by omega, Lib.hid rfl⟩
    case round =>
      obtain ⟨k, x, rfl, rfl, hk, hx, hnum⟩ := hrel
      by_cases hlt : k < n
      · have hik : i + k < s.size := by omega
        have hr := hexN_range (s[i + k].toNat)
        obtain ⟨d, hd⟩ : ∃ d, hexN (s[i + k].toNat) = d := ⟨_, rfl⟩
        have HD := Lib.hid hd
        rw [hd] at hr
        have HD2 := Lib.hid (show hexN (bt s (i + k)) = d by rw [← bt_get s (i + k) hik]; exact hd)
        clear hd
        by_cases h0 : d < 0
        · have HS := Lib.hid (show numO s i (k + 1) = none by simp only [numO, hnum.out, HD2.out, if_pos h0])
          go_wp2_with fail
          refine (hex_any _ _ (UInt8.toNat_lt _)).mono ?_
          rintro e w' ⟨rfl, rfl⟩
          rw [HD.out]
          go_wp2
          go_ret
          exact ⟨ret_i (by rw [HR.out, numO_none HS.out (by omega)]), rfl⟩
        · obtain ⟨dn, rfl⟩ : ∃ dn : Nat, d = dn := ⟨d.toNat, by omega⟩
          have HS := Lib.hid (show numO s i (k + 1) = some (x * 16 + dn) by simp only [numO, hnum.out, HD2.out, if_neg h0]; simp)
          have hb := numO_le HS.out
          have hp : 16 ^ (k + 1) ≤ 16 ^ 4 := Nat.pow_le_pow_right (by decide) (by omega)
          have hx2 : x * 16 + dn < 65536 := by have : (16 : Nat) ^ 4 = 65536 := by decide
                                               omega
          clear hb hp
          go_wp2_with fail
          refine (hex_any _ _ (UInt8.toNat_lt _)).mono ?_
          rintro e w' ⟨rfl, rfl⟩
          rw [HD.out]
          go_wp2_with fail
          refine (hex_any _ _ (UInt8.toNat_lt _)).mono ?_
          rintro e w' ⟨rfl, rfl⟩
          rw [HD.out]
          go_wp2
          go_round
          case rel => exact ⟨k + 1, x * 16 + dn, by go_num, by go_num, by omega, hx2, HS⟩
          case measure => simp [intOf]; omega
      · have hkn : k = n := by omega
        subst hkn
        go_wp2
        go_ret
        exact ⟨ret_i (by rw [HR.out, hnum.out]), rfl⟩

end Go.Proofs.YtoobbmehjpninaaGreatDoor
