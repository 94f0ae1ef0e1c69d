
/- The walks of Plain, the program's and the document's. -/
import Derived.Test.YtcmdpablbadloaaDoorBegins
import Derived.Test.YtcmdpablbadloaaDoorPl
import Derived.Test.YtcmdpablbadloaaDoorShelf
namespace Go.Proofs.YtcmdpablbadloaaDoor
open Go.RowKit

theorem ret_ib {a b : Int} {x y : Bool} (h : a = b) (h' : x = y) : Ending.returned (.tuple #[.int .i64 a, .bool x]) = .returned (.tuple #[.int .i64 b, .bool y]) := by rw [h, h']

theorem plain_out (s : ByteArray) (i : Int) (fl : Bool) (w : World) (h : i < 0 ∨ (s.size : Int) ≤ i) (hs : s.size ≤ 2000) :
    Calls Tryd.prog 23 #[.string s, .int .i64 i, .bool fl] w fun e w' => e = .returned (.tuple #[.int .i64 0, .bool false]) ∧ w = w' := by
  rcases h with h | h
  · go_enter Tryd.func23, Tryd.ntmps23
    go_wp2
    go_ret2
    exact ⟨rfl, rfl⟩
  · have h0 : (0 : Int) ≤ i := by omega
    go_enter Tryd.func23, Tryd.ntmps23
    go_wp2
    go_ret2
    exact ⟨rfl, rfl⟩

theorem plain_no (s : ByteArray) (i : Nat) (fl : Bool) (w : World) (h : i < s.size) (hs : s.size ≤ 2000) (hb : Hid (beginsB s i fl = false)) :
    Calls Tryd.prog 23 #[.string s, .int .i64 i, .bool fl] w fun e w' => e = .returned (.tuple #[.int .i64 0, .bool false]) ∧ w = w' := by
  go_enter Tryd.func23, Tryd.ntmps23
  go_wp2_with fail
  refine (begins_any s i fl _ h hs).mono ?_
  rintro e w' ⟨rfl, rfl⟩
  rw [hb.out]
  go_wp2
  go_ret2
  exact ⟨rfl, rfl⟩

set_option maxRecDepth 100000 in
set_option maxHeartbeats 2000000 in
theorem plain_yes (s : ByteArray) (i : Nat) (fl : Bool) (w : World) (h : i < s.size) (hs : s.size ≤ 2000) (hb : Hid (beginsB s i fl = true)) :
    Calls Tryd.prog 23 #[.string s, .int .i64 i, .bool fl] w fun e w' => e = .returned (.tuple #[.int .i64 (plainE s fl i), .bool true]) ∧ w = w' := by
  have key : ∀ (E : Nat), i < E → E ≤ s.size → (E = s.size ∨ endsB s E fl = true) → (∀ k, i < k → k < E → endsB s k fl = false) →
      ∀ L : List UInt8, L = s.data.toList.take E → ((Lib.trimRightB L 32).length : Int) = (plainE s fl i : Int) := by
    intro E a b c d L hL
    have := trim_size s E b
    rw [show (s.extract 0 E).data.toList = L by rw [hL]; simp [ByteArray.data_extract]] at this
    rw [plainE, endOf_eq a b c d, ← this]
  have z1 : decide ((i : Int) < 0) = false := by simp
  have z2 : decide (s.size ≤ i) = false := by simp; omega
  have KEY := Lib.hid key
  clear key
  have hm : (2000 : Nat) ≤ 9223372036854775807 := by omega
  go_enter Tryd.func23, Tryd.ntmps23
  go_wp2_with fail
  refine (begins_any s i fl _ h hs).mono ?_
  rintro e w' ⟨rfl, rfl⟩
  rw [hb.out]
  go_wp2
  go_loop [8, 32] (fun v j => ∃ k : Nat, j = .int .i64 k ∧ v = .int .i64 s.size ∧ i + 1 + k ≤ s.size ∧ Hid (∀ m, i < m → m < i + 1 + k → endsB s m fl = false)) (fun _ j => s.size - i - (intOf j).toNat)
  case atStart => exact ⟨0, rfl, rfl, by omega, Lib.hid (by intro m _ _; omega)⟩
  case round =>
    obtain ⟨k, rfl, rfl, hk, hno⟩ := hrel
    by_cases hlt : i + 1 + k < s.size
    · cases he : endsB s (i + 1 + k) fl with
      | true =>
        have HE := Lib.hid he
        clear he
        go_wp2_with fail
        refine (ends_any s (i + 1 + k) fl _ hlt (by omega) hs).mono ?_
        rintro e w' ⟨rfl, rfl⟩
        rw [HE.out]
        go_wp2_with fail
        refine (Tryd.strings_TrimRight_one _ 32 (by decide) _ (by first | omega | (simp; omega))).mono ?_
        rintro e w' ⟨rfl, rfl⟩
        have hsz := Lib.hid (KEY.out (i + 1 + k) (by omega) (by omega) (.inr HE.out) (fun m a b => hno.out m a b) _ rfl)
        go_wp2
        go_ret2
        exact ⟨ret_ib hsz.out rfl, rfl⟩
      | false =>
        have HE := Lib.hid he
        clear he
        go_wp2_with fail
        refine (ends_any s (i + 1 + k) fl _ hlt (by omega) hs).mono ?_
        rintro e w' ⟨rfl, rfl⟩
        rw [HE.out]
        go_wp2
        go_round
        case rel => exact ⟨k + 1, by go_num, rfl, by omega, Lib.hid (by
          intro m a b
          by_cases e : m = i + 1 + k
          · rw [e]; exact HE.out
          · exact hno.out m a (by omega))⟩
        case measure => simp [intOf]; omega
    · have HZ := Lib.hid (KEY.out s.size h (by omega) (.inl rfl) (fun m a b => hno.out m a (by omega)) s.data.toList (by rw [List.take_of_length_le (by simp)]))
      go_wp2_with fail
      refine (Tryd.strings_TrimRight_one _ 32 (by decide) _ (by first | omega | (simp; omega))).mono ?_
      rintro e w' ⟨rfl, rfl⟩
      go_wp2
      go_ret2
      exact ⟨ret_ib HZ.out rfl, rfl⟩
end Go.Proofs.YtcmdpablbadloaaDoor
