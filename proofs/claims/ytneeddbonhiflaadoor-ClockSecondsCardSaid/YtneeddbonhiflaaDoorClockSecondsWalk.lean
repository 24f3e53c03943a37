/-
  The walk of the law ClockSeconds.
-/
import Derived.Test.YtneeddbonhiflaaDoorClkAwake
import Derived.Test.YtneeddbonhiflaaDoorClSecLaw
namespace Go.Proofs.YtneeddbonhiflaaDoor.clockSeconds
open Go.RowKit

theorem walk {w : World} (hW : Wd w) {a b : Tm} :
    Calls Tryd.prog 5 #[tmV a, tmV b] w fun e w' => e = .returned (.bool true) ∧ Below w.heap.size w w' :=
  seconds_walk a b w (fun v q => awakeClk_any v (hW.below q)) (fun n v hn q => pfrom_any n hn v (hW.below q)) (fun t v q => pseconds_any t v (hW.below q)) (fun s t v _ => pcompare_any s t v)
end Go.Proofs.YtneeddbonhiflaaDoor.clockSeconds
