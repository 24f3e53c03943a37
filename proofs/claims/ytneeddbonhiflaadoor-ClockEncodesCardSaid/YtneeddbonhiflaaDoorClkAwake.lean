/-
  The law's examples come out as the document says.
-/
import Derived.Test.YtneeddbonhiflaaDoorClAwake
import Derived.Test.YtneeddbonhiflaaDoorClkEnc
import Derived.Test.YtneeddbonhiflaaDoorClkDec
import Derived.Test.YtneeddbonhiflaaDoorClkSec
import Derived.Test.YtneeddbonhiflaaDoorClkCmp
import Derived.Test.YtneeddbonhiflaaDoorClkFs
namespace Go.Proofs.YtneeddbonhiflaaDoor
open Go.RowKit

theorem awakeClk_any (w : World) (hW : Wd w) :
    Calls Tryd.prog 8 #[] w fun e w' => e = .returned (.bool true) ∧ Below w.heap.size w w' :=
  awake_walk w (fun t v q => putc_any t v (hW.below q)) (fun _ _ _ _ _ h q => pdecG_any h (hW.below q)) (fun t v q => pseconds_any t v (hW.below q)) (fun t v q => pvalid_any t v (hW.below q))
end Go.Proofs.YtneeddbonhiflaaDoor
