/-
  The walk of the law ClockDecodes.
-/
import Derived.Test.YtneeddbonhiflaaDoorClkAwake
import Derived.Test.YtneeddbonhiflaaDoorClDecLaw
namespace Go.Proofs.YtneeddbonhiflaaDoor.clockDecodes
open Go.RowKit

theorem walk {w : World} (hW : Wd w) {a : Option Addr} {n c : Nat} {l : List UInt8} (hx : Bs w a n c l) :
    Calls Tryd.prog 4 #[.slice a n c] w fun e w' => e = .returned (.bool true) ∧ Below w.heap.size w w' :=
  decodes_walk hx (fun v q => awakeClk_any v (hW.below q)) (fun _ h q => pdecU_any h (hW.below q)) (fun _ h q => pdecG_any h (hW.below q)) (fun t v q => putc_any t v (hW.below q)) (fun t v q => pgen_any t v (hW.below q))
end Go.Proofs.YtneeddbonhiflaaDoor.clockDecodes
