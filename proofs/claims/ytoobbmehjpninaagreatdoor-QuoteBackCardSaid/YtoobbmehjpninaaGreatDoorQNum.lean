/- The walk of the program's number. -/
import Derived.Test.YtoobbmehjpninaaGreatDoorNum
import Derived.Test.YtoobbmehjpninaaGreatDoorRDoubleP
namespace Go.Proofs.YtoobbmehjpninaaGreatDoor
open Go.RowKit

theorem bt_extract (s : ByteArray) (a b j : Nat) (h : a + j < b) (hb : b ≤ s.size) : bt (s.extract a b) j = bt s (a + j) := by
  have hz : (s.extract a b).size = b - a := by simp; omega
  rw [← bt_get _ j (by omega), ← bt_get s (a + j) (by omega)]
  simp [ByteArray.getElem_extract]
theorem numO_extract (s : ByteArray) (a b i k : Nat) (h : a + i + k ≤ b) (hb : b ≤ s.size) : numO (s.extract a b) i k = numO s (a + i) k := by
  induction k with
  | zero => rfl
  | succ k ih =>
    simp only [numO, ih (by omega)]
    rw [bt_extract s a b (i + k) (by omega) hb, show a + (i + k) = a + i + k by omega]
theorem numR_extract (s : ByteArray) (a i n : Nat) (ha : a ≤ s.size) : numR (s.extract a s.size) i n = numR s (a + i) n := by
  have hz : (s.extract a s.size).size = s.size - a := by simp
  unfold numR
  by_cases h : s.size < a + i + n
  · rw [if_pos h, if_pos (by omega)]
  · rw [if_neg h, if_neg (by omega), numO_extract s a s.size i n (by omega) (Nat.le_refl _)]

/-- What number answers. -/
def nuT (v : Int) : Value := if v < 0 then .tuple #[.int .i32 0, .bool false] else .tuple #[.int .i32 v, .bool (!decide (55296 ≤ v ∧ v < 57344))]
theorem valid_rune (v : Nat) (h : v < 65536) : Lib.validRune (v : Int) = !decide (55296 ≤ (v : Int) ∧ (v : Int) < 57344) := by
  unfold Lib.validRune
  rw [Bool.eq_iff_iff]; simp; omega

set_option maxRecDepth 100000 in
set_option maxHeartbeats 2000000 in
theorem number_any' (s : ByteArray) (d : Nat) (w : World) (hd : 1 ≤ d) (hd4 : d ≤ 4) (hE : ErrCell w) :
    Calls Tryz.prog 35 #[.string s, .int .i64 d] w fun e w' => e = .returned (nuT (numR s 0 d)) ∧ Below w.heap.size w w' := by
  by_cases hz : s.size < d
  · have HR := Lib.hid (show nuT (numR s 0 d) = .tuple #[.int .i32 0, .bool false] by unfold numR; rw [if_pos (by omega)]; rfl)
    have d1 : decide ((s.size : Int) < (d : Int)) = true := decide_eq_true (by omega)
    go_enter Tryz.func35, Tryz.ntmps35
    go_wp2
    go_ret2
    exact ⟨by rw [HR.out]; rfl, Below.refl _ _⟩
  · have d1 : decide ((s.size : Int) < (d : Int)) = false := decide_eq_false (by omega)
    have hts : (s.extract 0 d).size = d := by simp; omega
    have hP := parsePub (s.extract 0 d) (by omega) (by omega) w hE
    have hn : numO (s.extract 0 d) 0 (s.extract 0 d).size = numO s 0 d := by
      rw [hts, numO_extract s 0 d 0 d (by omega) (by omega)]
    rw [hn] at hP
    cases hnn : numO s 0 d with
    | none =>
      have HR := Lib.hid (show nuT (numR s 0 d) = .tuple #[.int .i32 0, .bool false] by unfold numR; rw [if_neg (by omega), hnn]; rfl)
      rw [hnn] at hP
      have hP2 : Calls Tryz.prog 47 #[.string (s.extract 0 d), .int .i64 16, .int .i64 16] w fun e w' => (∃ te pe, e = .returned (.tuple #[.int .u64 0, .iface te pe])) ∧ Below w.heap.size w w' :=
        hP.mono fun e w' ⟨h1, h2⟩ => ⟨by rcases h1 with ⟨v, hv, _⟩ | ⟨_, h⟩
                                         · cases hv
                                         · exact h, h2⟩
      clear hn hnn hE hP
      go_enter Tryz.func35, Tryz.ntmps35
      go_wp2_with (go_at_call 47; refine hP2.mono ?_)
      rintro e w1 ⟨⟨te, pe, rfl⟩, hb⟩
      go_wp2
      go_ret2
      exact ⟨by rw [HR.out]; rfl, hb⟩
    | some v =>
      have hv4 := numO_le hnn
      have hp : (16 : Nat) ^ d ≤ 16 ^ 4 := Nat.pow_le_pow_right (by decide) hd4
      have hp4 : (16 : Nat) ^ 4 = 65536 := by decide
      have hv5 : v < 65536 := by rw [hp4] at hp; omega
      have HR := Lib.hid (show nuT (numR s 0 d) = .tuple #[.int .i32 v, .bool (Lib.validRune (v : Int))] by
        have h1 : numR s 0 d = v := by unfold numR; rw [if_neg (by omega), hnn]
        rw [h1, valid_rune v hv5]; unfold nuT; rw [if_neg (by omega)])
      rw [hnn] at hP
      have hP2 : Calls Tryz.prog 47 #[.string (s.extract 0 d), .int .i64 16, .int .i64 16] w fun e w' => e = .returned (.tuple #[.int .u64 v, .nilIface]) ∧ Below w.heap.size w w' :=
        hP.mono fun e w' ⟨h1, h2⟩ => ⟨by rcases h1 with ⟨v', hv, h⟩ | ⟨hv, _⟩
                                         · cases hv; exact h
                                         · exact absurd hv (by simp), h2⟩
      clear hn hnn hE hv4 hp hp4 hP
      go_enter Tryz.func35, Tryz.ntmps35
      go_wp2_with (first | (go_at_call 47; refine hP2.mono ?_; rintro e w1 ⟨rfl, hb⟩) | (go_at_call 48; refine (Tryz.utf8_ValidRune _ _).mono ?_; rintro e w2 ⟨rfl, rfl⟩))
      go_ret2
      exact ⟨by rw [HR.out]; rfl, hb⟩
end Go.Proofs.YtoobbmehjpninaaGreatDoor
