/- The two tables of unicode/utf8, out of the card's condition. -/
import Derived.Test.YtcmdpablbadloaaDoorRows
import Derived.Test.YtcmdpablbadloaaDoorShelf
import Derived.Lib.LaidU8T
import Derived.Lib.LaidIn
import Derived.LaidHandle
import Derived.Lay
import Derived.LaidLaws
import Derived.LaidMore
import Derived.SevenTiedAt
namespace Go.Proofs.YtcmdpablbadloaaDoor
open Go.Shelf Go.Lib

theorem first_isW : Rows.laid_unicode_utf8_first = Lib.firstData := by kernel_rfl
theorem accept_isW : (Rows.laid_unicode_utf8_acceptRanges : DataW Unit) = Lib.acceptData := by kernel_rfl
theorem tabs_of_laidW {W : World} (h : laidMetH Tryd.prog Rows.literalWritesRow.laid W) : Lib.Utf8Tabs 0 1 W := by
  have h' : laidMet Tryd.prog Rows.literalWritesRow.laid W := by
    rw [MakeChecks.laidMetH_plain _ _ _ (by kernel_rfl)] at h; exact h
  have h2 := Lib.laidMet.reads h' (.head _)
  have h1 := Lib.laidMet.reads h' (.tail _ (.head _))
  rw [accept_isW] at h2
  rw [first_isW] at h1
  exact utf8Tabs_of_readsT (U8Types.of196 Tryd.lays196) ⟨by kernel_rfl, by kernel_rfl, by kernel_rfl, by kernel_rfl, by kernel_rfl, by kernel_rfl, by kernel_rfl⟩ h1 h2
end Go.Proofs.YtcmdpablbadloaaDoor
