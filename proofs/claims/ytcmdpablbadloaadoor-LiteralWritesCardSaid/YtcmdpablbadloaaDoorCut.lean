/- The walk of strings.Cut at a line feed. -/
import Derived.Test.YtcmdpablbadloaaDoorRows
import Derived.Test.YtcmdpablbadloaaDoorShelf
import Derived.Test.YtcmdpablbadloaaDoorLns
import Derived.WalkKit
import Derived.WalkSpells
import Derived.WalkLawsBesides
import Derived.Deep.QuietTactic
import Derived.BigQuiet
import Derived.Lib.Hide
namespace Go.Proofs.YtcmdpablbadloaaDoor
open Go.RowKit

def CutPost (t : ByteArray) (w : World) (e : Ending) (w' : World) : Prop :=
  ∃ (x : ByteArray) (b : Bool), e = .returned (.tuple #[.string ⟨(row t.data.toList).toArray⟩, .string x, .bool b]) ∧ ∃ n, w' = w.drewN n

theorem extract_take (t : ByteArray) (k : Nat) : t.extract 0 k = ⟨(t.data.toList.take k).toArray⟩ := by
  apply ByteArray.ext; simp [ByteArray.data_extract]; apply Array.ext'; simp

set_option maxRecDepth 100000 in
set_option maxHeartbeats 400000 in
theorem cutLow_none (t : ByteArray) (w : World) (h : Hid (Lib.indexByte t.data.toList 10 = -1)) :
    Calls Tryd.prog 57 #[.string t, .string ⟨#[10]⟩] w fun e w' => e = .returned (.tuple #[.string t, .string ⟨#[]⟩, .bool false]) ∧ w = w' := by
  go_enter Tryd.func57, Tryd.ntmps57
  go_wp2_with fail
  refine (Tryd.stringslite_Index_one t 10 _).mono ?_
  rintro e w' ⟨rfl, rfl⟩
  rw [h.out]
  go_wp2
  go_ret3
  exact ⟨rfl, rfl⟩

set_option maxRecDepth 100000 in
set_option maxHeartbeats 400000 in
theorem cutLow_some (t : ByteArray) (k : Nat) (w : World) (hs : t.size ≤ 1099511627776) (hk : k < t.size) (h : Hid (Lib.indexByte t.data.toList 10 = k)) :
    Calls Tryd.prog 57 #[.string t, .string ⟨#[10]⟩] w fun e w' => e = .returned (.tuple #[.string (t.extract 0 k), .string (t.extract (k + 1) t.size), .bool true]) ∧ ∃ n, w' = w.drewN n := by
  go_enter Tryd.func57, Tryd.ntmps57
  go_wp2_with fail
  refine (Tryd.stringslite_Index_one t 10 _).mono ?_
  rintro e w' ⟨rfl, rfl⟩
  rw [h.out]
  go_wp2
  have x1 : IntKind.i64.wrap ((k : Int) + 1) = (k : Int) + 1 := by rw [IntKind.wrap_i64]; omega
  have x2 : (0 : Int) ≤ (k : Int) + 1 := by omega
  have x3 : ((k : Int) + 1).toNat = k + 1 := by omega
  go_quiet (fail)
  go_wp2
  go_ret3
  exact ⟨rfl, _, rfl⟩

theorem cutLow (t : ByteArray) (w : World) (hs : t.size ≤ 1099511627776) : Calls Tryd.prog 57 #[.string t, .string ⟨#[10]⟩] w (CutPost t w) := by
  rcases index_row t.data.toList with ⟨h, hr⟩ | ⟨h, hr⟩
  · exact (cutLow_none t w (Lib.hid h)).mono fun e w' ⟨h1, h2⟩ => ⟨⟨#[]⟩, false, by rw [h1, hr], 0, by rw [← h2]; rfl⟩
  · have hk : (row t.data.toList).length < t.size := by simpa using hr
    refine (cutLow_some t _ w hs hk (Lib.hid h)).mono fun e w' ⟨h1, h2⟩ => ⟨t.extract ((row t.data.toList).length + 1) t.size, true, ?_, h2⟩
    rw [h1, extract_take, ← row_take]

set_option maxRecDepth 100000 in
set_option maxHeartbeats 400000 in
theorem cut_any (t : ByteArray) (w : World) (hs : t.size ≤ 1099511627776) : Calls Tryd.prog 34 #[.string t, .string ⟨#[10]⟩] w (CutPost t w) := by
  go_enter Tryd.func34, Tryd.ntmps34
  go_wp2_with fail
  refine (cutLow t _ hs).mono ?_
  rintro e w' ⟨x, b, rfl, n, rfl⟩
  go_wp2
  go_ret3
  exact ⟨x, b, rfl, n, rfl⟩
end Go.Proofs.YtcmdpablbadloaaDoor
