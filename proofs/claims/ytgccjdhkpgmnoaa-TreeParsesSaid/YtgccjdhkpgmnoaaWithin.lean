/-
  Contract of Within (cretulabase).
-/
import Derived.Test.YtgccjdhkpgmnoaaChecked
import Derived.WalkKit
import Derived.ProofKit
import Derived.Below
import Derived.OwnWalk
import Derived.Outline
import Derived.Lib.Hide
import Derived.Deep.DeepMust
import Derived.WalkLawsBesides
import Derived.Test.YtgccjdhkpgmnoaaWords
namespace Go.Proofs.Ytgccjdhkpgmnoaa
open Go.RowKit

theorem within_err {c o n : Int} (hc : 0 < c) (h0 : 0 ≤ o) (h1 : o ≤ n) (w : World) :
    Calls Try.prog 14 #[.agg #[.int .i64 c, .int .i64 o], .int .i64 n] w fun e w' => e = .returned (.bool true) ∧ Below w.heap.size w w' := by
  have hc2 : (c == 0) = false := by simp; omega
  go_enter Try.func14, Try.ntmps14
  go_wp2
  go_ret
  exact ⟨rfl, bal (Below.refl _ _) _⟩
theorem within_zero {n : Int} (w : World) :
    Calls Try.prog 14 #[.agg #[.int .i64 0, .int .i64 0], .int .i64 n] w fun e w' => e = .returned (.bool true) ∧ Below w.heap.size w w' := by
  go_enter Try.func14, Try.ntmps14
  go_wp2
  go_ret
  exact ⟨rfl, bal (Below.refl _ _) _⟩
end Go.Proofs.Ytgccjdhkpgmnoaa
