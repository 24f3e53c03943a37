/-
  The walk of the law ClockEncodes.
-/
import Derived.Test.YtneeddbonhiflaaDoorClkAwake
import Derived.Test.YtneeddbonhiflaaDoorClEncLaw
namespace Go.Proofs.YtneeddbonhiflaaDoor.clockEncodes
open Go.RowKit

theorem walk {w : World} (hW : Wd w) {t : Tm} :
    Calls Tryd.prog 3 #[tmV t] w fun e w' => e = .returned (.bool true) ∧ Below w.heap.size w w' :=
  encodes_walk t w (fun v q => awakeClk_any v (hW.below q)) (fun t v q => putc_any t v (hW.below q)) (fun t v q => pgen_any t v (hW.below q)) (fun t v q => pvalid_any t v (hW.below q)) (fun _ _ _ _ _ h q => pdecU_any h (hW.below q)) (fun _ _ _ _ _ h q => pdecG_any h (hW.below q))
end Go.Proofs.YtneeddbonhiflaaDoor.clockEncodes
