/-
  What the listed package-level variables hold, for the frames of the laws on character strings.
-/
import Derived.Test.YtkmpmphabohkkaaDoorFrameText
import Derived.Test.YtkmpmphabohkkaaDoorChAll
import Derived.Lib.LaidU8T
namespace Go.Proofs.YtkmpmphabohkkaaDoor
open Go.Shelf Go.Lib

theorem laid_first : Rows.laid_unicode_utf8_first = firstData := by kernel_rfl
theorem laid_accept : (Rows.laid_unicode_utf8_acceptRanges : DataW Unit) = acceptData := by kernel_rfl
theorem wd_of {W : World} (hL : laidMet Tryd.prog Rows.charsetEncodesRow.laid W) : Wd W := by
  have h3 : VarReads Tryd.prog W "unicode/utf8.first" firstData := laidMet.reads hL (by rw [← laid_first]; exact List.Mem.tail _ (List.Mem.head _))
  have h4 : VarReads Tryd.prog W "unicode/utf8.acceptRanges" acceptData := laidMet.reads hL (by rw [← laid_accept]; exact List.Mem.head _)
  exact utf8Tabs_of_readsT (U8Types.of196 Tryd.lays196) ⟨by kernel_rfl, by kernel_rfl, by kernel_rfl, by kernel_rfl, by kernel_rfl, by kernel_rfl, by kernel_rfl⟩ h3 h4
end Go.Proofs.YtkmpmphabohkkaaDoor
