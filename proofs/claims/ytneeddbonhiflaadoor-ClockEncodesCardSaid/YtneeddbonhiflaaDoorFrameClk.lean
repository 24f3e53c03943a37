/-
  What the listed package-level variable holds, for the frames of the laws on points in time.
-/
import Derived.Test.YtneeddbonhiflaaDoorFrameTime
import Derived.Test.YtneeddbonhiflaaDoorClkDays
import Derived.Test.YtneeddbonhiflaaDoorRows
import Derived.Lib.LaidTab
namespace Go.Proofs.YtneeddbonhiflaaDoor
open Go.RowKit

theorem wd_of {W : World} (hL : laidMet Tryd.prog Rows.clockEncodesRow.laid W) : Wd W := by
  have h1 : laidMet Tryd.prog (("cretula/clock.lengths", Lib.tabData .i64 lens) :: []) W := hL
  have hT := Lib.tabIs_of_head (g := 0) (t := 54) (e := 3) (n := 12) (by kernel_rfl) (by kernel_rfl) Tryd.underlying54 Tryd.underlying3 (by kernel_rfl) (by kernel_rfl) h1
  intro i hi
  exact hT.cell (by kernel_rfl) i hi
end Go.Proofs.YtneeddbonhiflaaDoor
