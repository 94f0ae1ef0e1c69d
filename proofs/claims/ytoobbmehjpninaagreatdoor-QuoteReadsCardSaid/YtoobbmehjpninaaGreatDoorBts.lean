/- The walk of the document's Bytes. -/
import Derived.Test.YtoobbmehjpninaaGreatDoorBtsP
import Derived.Test.YtoobbmehjpninaaGreatDoorOut
import Derived.WalkSpells
import Derived.Lib.Hide
namespace Go.Proofs.YtoobbmehjpninaaGreatDoor
open Go.RowKit

set_option maxRecDepth 100000 in
set_option maxHeartbeats 2000000 in
theorem bytes_1 (c : Int) (w : World) (h0 : 0 ≤ c) (h1 : c < 128) :
    Calls Tryz.prog 26 #[.int .i64 c] w fun e w' => ∃ v, e = .returned v ∧ w'.ownsRow w.heap.size 5 1 v (encB c.toNat).length (bv (encB c.toNat)) ∧ Below w.heap.size w w' := by
  have HE : Hid (encB c.toNat = [UInt8.ofNat (c.toNat)] ∧ bv [UInt8.ofNat (c.toNat)] = [.int .u8 (c)]) := Lib.hid (by
    obtain ⟨n, rfl⟩ : ∃ n : Nat, c = n := ⟨c.toNat, by omega⟩
    simp only [Int.toNat_natCast]
    exact ⟨by unfold encB; rw [if_pos (by omega)], by simp only [bv, List.map_cons, List.map_nil, nat8 (show n < 256 by omega)]⟩)
  go_enter Tryz.func26, Tryz.ntmps26
  go_wp2
  go_ret
  refine ⟨_, rfl, ?_, (Below.refl _ _).alloc (Nat.le_refl _) _⟩
  obtain ⟨h1, h2⟩ := HE.out
  have := own_lit w [UInt8.ofNat (c.toNat)] (by show 1 ≤ maxLen; decide) _ (Nat.le_refl _)
  rw [h1]
  rw [h2] at this ⊢
  exact this
set_option maxRecDepth 100000 in
set_option maxHeartbeats 2000000 in
theorem bytes_2 (c : Int) (w : World) (h0 : 128 ≤ c) (h1 : c < 2048) :
    Calls Tryz.prog 26 #[.int .i64 c] w fun e w' => ∃ v, e = .returned v ∧ w'.ownsRow w.heap.size 5 1 v (encB c.toNat).length (bv (encB c.toNat)) ∧ Below w.heap.size w w' := by
  have HE : Hid (encB c.toNat = [UInt8.ofNat (192 + c.toNat / 64), UInt8.ofNat (128 + c.toNat % 64)] ∧ bv [UInt8.ofNat (192 + c.toNat / 64), UInt8.ofNat (128 + c.toNat % 64)] = [.int .u8 (192 + c / 64), .int .u8 (128 + c % 64)]) := Lib.hid (by
    obtain ⟨n, rfl⟩ : ∃ n : Nat, c = n := ⟨c.toNat, by omega⟩
    simp only [Int.toNat_natCast]
    exact ⟨by unfold encB; rw [if_neg (by omega), if_pos (by omega)], by simp only [bv, List.map_cons, List.map_nil, nat8 (show 192 + n / 64 < 256 by omega), nat8 (show 128 + n % 64 < 256 by omega)]; simp⟩)
  go_enter Tryz.func26, Tryz.ntmps26
  go_wp2
  go_ret
  refine ⟨_, rfl, ?_, (Below.refl _ _).alloc (Nat.le_refl _) _⟩
  obtain ⟨h1, h2⟩ := HE.out
  have := own_lit w [UInt8.ofNat (192 + c.toNat / 64), UInt8.ofNat (128 + c.toNat % 64)] (by show 2 ≤ maxLen; decide) _ (Nat.le_refl _)
  rw [h1]
  rw [h2] at this ⊢
  exact this
set_option maxRecDepth 100000 in
set_option maxHeartbeats 2000000 in
theorem bytes_3 (c : Int) (w : World) (h0 : 2048 ≤ c) (h1 : c < 65536) :
    Calls Tryz.prog 26 #[.int .i64 c] w fun e w' => ∃ v, e = .returned v ∧ w'.ownsRow w.heap.size 5 1 v (encB c.toNat).length (bv (encB c.toNat)) ∧ Below w.heap.size w w' := by
  have HE : Hid (encB c.toNat = [UInt8.ofNat (224 + c.toNat / 4096), UInt8.ofNat (128 + c.toNat / 64 % 64), UInt8.ofNat (128 + c.toNat % 64)] ∧ bv [UInt8.ofNat (224 + c.toNat / 4096), UInt8.ofNat (128 + c.toNat / 64 % 64), UInt8.ofNat (128 + c.toNat % 64)] = [.int .u8 (224 + c / 4096), .int .u8 (128 + c / 64 % 64), .int .u8 (128 + c % 64)]) := Lib.hid (by
    obtain ⟨n, rfl⟩ : ∃ n : Nat, c = n := ⟨c.toNat, by omega⟩
    simp only [Int.toNat_natCast]
    exact ⟨by unfold encB; rw [if_neg (by omega), if_neg (by omega), if_pos (by omega)], by simp only [bv, List.map_cons, List.map_nil, nat8 (show 224 + n / 4096 < 256 by omega), nat8 (show 128 + n / 64 % 64 < 256 by omega), nat8 (show 128 + n % 64 < 256 by omega)]; simp⟩)
  go_enter Tryz.func26, Tryz.ntmps26
  go_wp2
  go_ret
  refine ⟨_, rfl, ?_, (Below.refl _ _).alloc (Nat.le_refl _) _⟩
  obtain ⟨h1, h2⟩ := HE.out
  have := own_lit w [UInt8.ofNat (224 + c.toNat / 4096), UInt8.ofNat (128 + c.toNat / 64 % 64), UInt8.ofNat (128 + c.toNat % 64)] (by show 3 ≤ maxLen; decide) _ (Nat.le_refl _)
  rw [h1]
  rw [h2] at this ⊢
  exact this
set_option maxRecDepth 100000 in
set_option maxHeartbeats 2000000 in
theorem bytes_4 (c : Int) (w : World) (h0 : 65536 ≤ c) (h1 : c < 1114112) :
    Calls Tryz.prog 26 #[.int .i64 c] w fun e w' => ∃ v, e = .returned v ∧ w'.ownsRow w.heap.size 5 1 v (encB c.toNat).length (bv (encB c.toNat)) ∧ Below w.heap.size w w' := by
  have HE : Hid (encB c.toNat = [UInt8.ofNat (240 + c.toNat / 262144), UInt8.ofNat (128 + c.toNat / 4096 % 64), UInt8.ofNat (128 + c.toNat / 64 % 64), UInt8.ofNat (128 + c.toNat % 64)] ∧ bv [UInt8.ofNat (240 + c.toNat / 262144), UInt8.ofNat (128 + c.toNat / 4096 % 64), UInt8.ofNat (128 + c.toNat / 64 % 64), UInt8.ofNat (128 + c.toNat % 64)] = [.int .u8 (240 + c / 262144), .int .u8 (128 + c / 4096 % 64), .int .u8 (128 + c / 64 % 64), .int .u8 (128 + c % 64)]) := Lib.hid (by
    obtain ⟨n, rfl⟩ : ∃ n : Nat, c = n := ⟨c.toNat, by omega⟩
    simp only [Int.toNat_natCast]
    exact ⟨by unfold encB; rw [if_neg (by omega), if_neg (by omega), if_neg (by omega)], by simp only [bv, List.map_cons, List.map_nil, nat8 (show 240 + n / 262144 < 256 by omega), nat8 (show 128 + n / 4096 % 64 < 256 by omega), nat8 (show 128 + n / 64 % 64 < 256 by omega), nat8 (show 128 + n % 64 < 256 by omega)]; simp⟩)
  go_enter Tryz.func26, Tryz.ntmps26
  go_wp2
  go_ret
  refine ⟨_, rfl, ?_, (Below.refl _ _).alloc (Nat.le_refl _) _⟩
  obtain ⟨h1, h2⟩ := HE.out
  have := own_lit w [UInt8.ofNat (240 + c.toNat / 262144), UInt8.ofNat (128 + c.toNat / 4096 % 64), UInt8.ofNat (128 + c.toNat / 64 % 64), UInt8.ofNat (128 + c.toNat % 64)] (by show 4 ≤ maxLen; decide) _ (Nat.le_refl _)
  rw [h1]
  rw [h2] at this ⊢
  exact this
theorem bytes_any (c : Nat) (w : World) (hc : c < 1114112) :
    Calls Tryz.prog 26 #[.int .i64 c] w fun e w' => ∃ v, e = .returned v ∧ w'.ownsRow w.heap.size 5 1 v (encB c).length (bv (encB c)) ∧ Below w.heap.size w w' := by
  have hn : ((c : Int)).toNat = c := by simp
  rw [← hn]
  by_cases h1 : c < 128
  · simpa using bytes_1 (c : Int) w (by omega) (by omega)
  by_cases h2 : c < 2048
  · simpa using bytes_2 (c : Int) w (by omega) (by omega)
  by_cases h3 : c < 65536
  · simpa using bytes_3 (c : Int) w (by omega) (by omega)
  · simpa using bytes_4 (c : Int) w (by omega) (by omega)
end Go.Proofs.YtoobbmehjpninaaGreatDoor
