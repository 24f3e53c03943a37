/-
  The walk of the law ClockDays.
-/
import Derived.Test.YtneeddbonhiflaaDoorClkAwake
import Derived.Test.YtneeddbonhiflaaDoorClDaysLaw
namespace Go.Proofs.YtneeddbonhiflaaDoor.clockDays
open Go.RowKit

theorem walk {w : World} (hW : Wd w) {y m d : Int} (_w0 : (Lit.int .i64 y).wf = true) (_w1 : (Lit.int .i64 m).wf = true) (_w2 : (Lit.int .i64 d).wf = true) :
    Calls Tryd.prog 7 #[.int .i64 y, .int .i64 m, .int .i64 d] w fun e w' => e = .returned (.bool true) ∧ Below w.heap.size w w' :=
  days_walk y m d w (fun v q => awakeClk_any v (hW.below q)) (fun y m v q => (pdays_any y m v (hW.below q)).mono fun _ _ ⟨he, hw⟩ => ⟨he, by rw [hw]; exact Below.refl _ _⟩) (fun t v q => pvalid_any t v (hW.below q))
end Go.Proofs.YtneeddbonhiflaaDoor.clockDays
