/-
  The walk of the law ClockCounts.
-/
import Derived.Test.YtneeddbonhiflaaDoorClkAwake
import Derived.Test.YtneeddbonhiflaaDoorClCounts
namespace Go.Proofs.YtneeddbonhiflaaDoor.clockCounts
open Go.RowKit

theorem walk {w : World} (hW : Wd w) {n : Int} (wn : (Lit.int .i64 n).wf = true) :
    Calls Tryd.prog 6 #[.int .i64 n] w fun e w' => e = .returned (.bool true) ∧ Below w.heap.size w w' := by
  have hn := bounds_i64 wn
  exact counts_walk n hn w (fun v q => awakeClk_any v (hW.below q)) (fun n v hn q => pfrom_any n hn v (hW.below q)) (fun t v q => pseconds_any t v (hW.below q)) (fun s t v _ => pcompare_any s t v)
end Go.Proofs.YtneeddbonhiflaaDoor.clockCounts
