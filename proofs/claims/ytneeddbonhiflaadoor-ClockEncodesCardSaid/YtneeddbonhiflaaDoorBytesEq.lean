/-
  Contract of Bytes (cretulabase).
-/
import Derived.Test.YtneeddbonhiflaaDoorChecked
import Derived.WalkKit
import Derived.ProofKit
import Derived.Below
import Derived.OwnWalk
import Derived.Outline
import Derived.Deep.QuietTactic
import Derived.Lib.Hide
import Derived.BigQuiet
import Derived.Test.YtneeddbonhiflaaDoorWords
import Derived.Test.YtneeddbonhiflaaDoorMath
import Derived.LoopTactic
import Derived.Deep.DeepMust
import Derived.WalkLawsBesides
namespace Go.Proofs.YtneeddbonhiflaaDoor
open Go.RowKit

/-- Bytes of cretulabase -/
theorem bytes_any {w : World} {a b : Option Addr} {n c m d : Nat} {xs ys : List UInt8} (hx : Bs w a n c xs) (hy : Bs w b m d ys) :
    Calls Tryd.prog 13 #[.slice a n c, .slice b m d] w fun e w' => e = .returned (.bool (eqB xs ys)) ∧ w = w' := by
  have c1 := fun dst hd => hx.conv (P := Tryd.prog) (dst := dst) Tryd.underlying25 Tryd.underlying5 hd
  have c2 := fun dst hd => hy.conv (P := Tryd.prog) (dst := dst) Tryd.underlying25 Tryd.underlying5 hd
  have k1 := c1 9 Tryd.underlying9
  have k2 := c2 9 Tryd.underlying9
  clear c1 c2 hx hy
  go_enter Tryd.func13, Tryd.ntmps13
  go_wp2
  go_ret
  exact ⟨by rw [eqB_beq]; rfl, rfl⟩

end Go.Proofs.YtneeddbonhiflaaDoor
