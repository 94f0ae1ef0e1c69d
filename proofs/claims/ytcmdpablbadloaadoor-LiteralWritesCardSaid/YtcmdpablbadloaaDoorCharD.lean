/- The walk of the document's Char: the character that begins at a place, and how many bytes it has. -/
import Derived.Test.YtcmdpablbadloaaDoorRows
import Derived.WalkKit
import Derived.WalkSpells
import Derived.WalkLawsBesides
import Derived.Deep.QuietTactic
import Derived.BigQuiet
namespace Go.Proofs.YtcmdpablbadloaaDoor
open Go.RowKit

set_option maxRecDepth 100000 in
set_option maxHeartbeats 1000000 in
theorem char_d_short (s : ByteArray) (i : Nat) (w : World) (_hs : s.size ≤ maxLen) (_h : i < s.size) (_h2 : s.size ≤ i + 2) (_ha : 224 ≤ (s[i]'(by omega)).toNat) (_hb : (s[i]'(by omega)).toNat < 240) :
    Calls Tryd.prog 42 #[.string s, .int .i64 i] w fun e w' => e = .returned (.tuple #[.int .i64 0, .int .i64 0]) ∧ ∃ n, w' = w.drewN n := by
  unfold maxLen at _hs
  have _g0 := UInt8.toNat_lt ((s[i]'(by omega)))
  go_enter Tryd.func42, Tryd.ntmps42
  go_wp2
  go_ret2
  exact ⟨rfl, 0, rfl⟩

set_option maxRecDepth 100000 in
set_option maxHeartbeats 1000000 in
theorem char_d_lo1 (s : ByteArray) (i : Nat) (w : World) (_hs : s.size ≤ maxLen) (_h : i + 2 < s.size) (_ha : 224 ≤ (s[i]'(by omega)).toNat) (_hb : (s[i]'(by omega)).toNat < 240) (_h1 : (s[i + 1]'(by omega)).toNat < 128) :
    Calls Tryd.prog 42 #[.string s, .int .i64 i] w fun e w' => e = .returned (.tuple #[.int .i64 0, .int .i64 0]) ∧ ∃ n, w' = w.drewN n := by
  unfold maxLen at _hs
  have _g0 := UInt8.toNat_lt ((s[i]'(by omega)))
  have _g1 := UInt8.toNat_lt ((s[i + 1]'(by omega)))
  go_enter Tryd.func42, Tryd.ntmps42
  go_wp2
  go_ret2
  exact ⟨rfl, 0, rfl⟩

set_option maxRecDepth 100000 in
set_option maxHeartbeats 1000000 in
theorem char_d_hi1 (s : ByteArray) (i : Nat) (w : World) (_hs : s.size ≤ maxLen) (_h : i + 2 < s.size) (_ha : 224 ≤ (s[i]'(by omega)).toNat) (_hb : (s[i]'(by omega)).toNat < 240) (_h1 : 192 ≤ (s[i + 1]'(by omega)).toNat) :
    Calls Tryd.prog 42 #[.string s, .int .i64 i] w fun e w' => e = .returned (.tuple #[.int .i64 0, .int .i64 0]) ∧ ∃ n, w' = w.drewN n := by
  unfold maxLen at _hs
  have _g0 := UInt8.toNat_lt ((s[i]'(by omega)))
  have _g1 := UInt8.toNat_lt ((s[i + 1]'(by omega)))
  go_enter Tryd.func42, Tryd.ntmps42
  go_wp2
  go_ret2
  exact ⟨rfl, 0, rfl⟩

set_option maxRecDepth 100000 in
set_option maxHeartbeats 1000000 in
theorem char_d_lo2 (s : ByteArray) (i : Nat) (w : World) (_hs : s.size ≤ maxLen) (_h : i + 2 < s.size) (_ha : 224 ≤ (s[i]'(by omega)).toNat) (_hb : (s[i]'(by omega)).toNat < 240) (_h1 : 128 ≤ (s[i + 1]'(by omega)).toNat) (_h1' : (s[i + 1]'(by omega)).toNat < 192) (_h2 : (s[i + 2]'(by omega)).toNat < 128) :
    Calls Tryd.prog 42 #[.string s, .int .i64 i] w fun e w' => e = .returned (.tuple #[.int .i64 0, .int .i64 0]) ∧ ∃ n, w' = w.drewN n := by
  unfold maxLen at _hs
  have _g0 := UInt8.toNat_lt ((s[i]'(by omega)))
  have _g1 := UInt8.toNat_lt ((s[i + 1]'(by omega)))
  have _g2 := UInt8.toNat_lt ((s[i + 2]'(by omega)))
  go_enter Tryd.func42, Tryd.ntmps42
  go_wp2
  go_ret2
  exact ⟨rfl, 0, rfl⟩

set_option maxRecDepth 100000 in
set_option maxHeartbeats 1000000 in
theorem char_d_hi2 (s : ByteArray) (i : Nat) (w : World) (_hs : s.size ≤ maxLen) (_h : i + 2 < s.size) (_ha : 224 ≤ (s[i]'(by omega)).toNat) (_hb : (s[i]'(by omega)).toNat < 240) (_h1 : 128 ≤ (s[i + 1]'(by omega)).toNat) (_h1' : (s[i + 1]'(by omega)).toNat < 192) (_h2 : 192 ≤ (s[i + 2]'(by omega)).toNat) :
    Calls Tryd.prog 42 #[.string s, .int .i64 i] w fun e w' => e = .returned (.tuple #[.int .i64 0, .int .i64 0]) ∧ ∃ n, w' = w.drewN n := by
  unfold maxLen at _hs
  have _g0 := UInt8.toNat_lt ((s[i]'(by omega)))
  have _g1 := UInt8.toNat_lt ((s[i + 1]'(by omega)))
  have _g2 := UInt8.toNat_lt ((s[i + 2]'(by omega)))
  go_enter Tryd.func42, Tryd.ntmps42
  go_wp2
  go_ret2
  exact ⟨rfl, 0, rfl⟩

end Go.Proofs.YtcmdpablbadloaaDoor
