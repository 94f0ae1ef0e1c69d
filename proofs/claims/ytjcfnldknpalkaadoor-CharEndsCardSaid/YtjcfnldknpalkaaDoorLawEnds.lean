/- The walk of CharEnds. -/
import Derived.Test.YtjcfnldknpalkaaDoorLawPlain
namespace Go.Proofs.YtjcfnldknpalkaaDoor
open Go.RowKit

theorem plainE_is {s : ByteArray} {fl : Bool} {j : Nat} (h : j < s.size) (hb : beginsB s j fl = true) :
    j < plainE s fl j ∧ plainE s fl j ≤ s.size ∧ bt s (plainE s fl j - 1) ≠ 32 ∧ ∀ k, j < k → k < plainE s fl j → endsB s k fl = false := by
  obtain ⟨h1, h2, h3⟩ := endOf_is (fl := fl) h
  have h4 := tr_le s (endOf s fl j)
  have h5 := tr_gt s j _ (begins_ne hb) h1
  unfold plainE
  exact ⟨h5, by omega, tr_last s _ (by omega), fun k a b => h3 k a (by omega)⟩
theorem ends_parts {s : ByteArray} {k : Nat} {fl : Bool} (h : endsB s k fl = false) : partsB s k fl = false ∧ (fl = true → flowB (bt s k) = false) := by
  have hp : partsB s k fl = false := by
    cases hp : partsB s k fl with
    | false => rfl
    | true => rw [parts_ends hp] at h; cases h
  refine ⟨hp, fun e => ?_⟩
  rw [ends_rest hp, e] at h
  by_cases h35 : bt s k = 35
  · rw [h35]; decide
  · simpa [h35] using h

set_option maxRecDepth 100000 in
set_option maxHeartbeats 4000000 in
theorem charEnds_walk (s : ByteArray) (i : Int) (fl : Bool) (hs : s.size ≤ maxLen) (_hi : (Lit.int .i64 i).wf = true) (w : World) :
    Calls Tryd.prog 6 #[.string s, .int .i64 i, .bool fl] w fun e w' => e = .returned (.bool true) ∧ Below w.heap.size w w' := by
  unfold maxLen at hs
  by_cases hl : 300 < s.size
  · go_enter Tryd.func6, Tryd.ntmps6
    go_wp2_with fail
    refine (awake3_any _).mono ?_
    rintro e w1 ⟨rfl, hb⟩
    go_wp2
    go_ret
    exact ⟨rfl, hb⟩
  by_cases ho : i < 0 ∨ (s.size : Int) ≤ i
  · have HO := Lib.hid ho
    clear ho
    go_enter Tryd.func6, Tryd.ntmps6
    go_wp2_with fail
    refine (plain_out s i fl _ HO.out (by omega)).mono ?_
    rintro e w' ⟨rfl, rfl⟩
    go_wp2_with fail
    refine (awake3_any _).mono ?_
    rintro e w1 ⟨rfl, hb⟩
    go_wp2
    go_ret
    exact ⟨rfl, hb⟩
  obtain ⟨j, rfl⟩ : ∃ j : Nat, i = j := ⟨i.toNat, by omega⟩
  have hj : j < s.size := by omega
  clear ho
  cases hb : beginsB s j fl with
  | true =>
    obtain ⟨a1, a2, a3, a4⟩ := plainE_is hj hb
    have HB := Lib.hid hb
    have k1 : ((s[j].toNat : Int) == 32) = false := (ne_true (c := 32) hj (begins_ne hb)).2
    clear hb
    obtain ⟨E, hE⟩ : ∃ E, plainE s fl j = E := ⟨_, rfl⟩
    have HE := Lib.hid hE
    rw [hE] at a1 a2 a3 a4
    clear hE
    have hE1 : E - 1 < s.size := by omega
    have k2 : ((s[E - 1].toNat : Int) == 32) = false := (ne_true (c := 32) hE1 a3).2
    have A4 := Lib.hid a4
    have z1 : decide ((E : Int) ≤ (j : Int)) = false := decide_eq_false (by omega)
    have z2 : decide ((s.size : Int) < (E : Int)) = false := decide_eq_false (by omega)
    have z3 : decide (E ≤ j) = false := decide_eq_false (by omega)
    have z4 : decide (s.size < E) = false := decide_eq_false (by omega)
    have z5 : decide ((j : Int) < 0) = false := decide_eq_false (by omega)
    have z6 : decide ((300 : Int) < (s.size : Int)) = false := decide_eq_false (by omega)
    clear a3 a4
    go_enter Tryd.func6, Tryd.ntmps6
    go_wp2_with fail
    refine (plain_yes s j fl _ hj (by omega) HB).mono ?_
    rintro e w' ⟨rfl, rfl⟩
    rw [HE.out]
    go_wp2
    go_loop [9] (fun v => ∃ k : Nat, v = .int .i64 k ∧ j < k ∧ k ≤ E) (fun v => E - (intOf v).toNat)
    case atStart => exact ⟨j + 1, by go_num, by omega, by omega⟩
    case round =>
      obtain ⟨k, rfl, hjk, hkE⟩ := hrel
      by_cases hlt : k < E
      · have hks : k < s.size := by omega
        obtain ⟨p1, p2⟩ := ends_parts (A4.out k hjk hlt)
        have P1 := Lib.hid p1
        have P2 := Lib.hid p2
        clear p1 p2
        cases fl with
        | false =>
          go_wp2_with fail
          refine (parts_any s k false _ hks (by omega)).mono ?_
          rintro e w' ⟨rfl, rfl⟩
          rw [P1.out]
          go_wp2
          go_round
          case rel => exact ⟨k + 1, by go_num, by omega, by omega⟩
          case measure => simp [intOf]; omega
        | true =>
          have HF := Lib.hid (show flowB (s[k].toNat) = false by rw [bt_get s k hks]; exact P2.out rfl)
          go_wp2_with fail
          refine (parts_any s k true _ hks (by omega)).mono ?_
          rintro e w' ⟨rfl, rfl⟩
          rw [P1.out]
          go_wp2_with fail
          refine (flow_any _ _ (UInt8.toNat_lt _)).mono ?_
          rintro e w' ⟨rfl, rfl⟩
          rw [HF.out]
          go_wp2
          go_round
          case rel => exact ⟨k + 1, by go_num, by omega, by omega⟩
          case measure => simp [intOf]; omega
      · go_wp2_with fail
        refine (awake3_any _).mono ?_
        rintro e w1 ⟨rfl, hb⟩
        go_wp2
        go_ret
        exact ⟨rfl, hb⟩
  | false =>
    have HB := Lib.hid hb
    clear hb
    go_enter Tryd.func6, Tryd.ntmps6
    go_wp2_with fail
    refine (plain_no s j fl _ hj (by omega) HB).mono ?_
    rintro e w' ⟨rfl, rfl⟩
    go_wp2_with fail
    refine (awake3_any _).mono ?_
    rintro e w1 ⟨rfl, hb⟩
    go_wp2
    go_ret
    exact ⟨rfl, hb⟩
end Go.Proofs.YtjcfnldknpalkaaDoor
