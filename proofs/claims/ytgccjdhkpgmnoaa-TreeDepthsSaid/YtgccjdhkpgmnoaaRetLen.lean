/-
  How ReadLength's results are written; blocks of two cells.
-/
import Derived.Test.YtgccjdhkpgmnoaaSlices
import Derived.Test.YtgccjdhkpgmnoaaLenMath
namespace Go.Proofs.Ytgccjdhkpgmnoaa
open Go.RowKit

theorem ret_rl {l : List UInt8} {n s c o : Nat} (h : rdLen l = ⟨n, s, c, o⟩) :
    Ending.returned (.tuple #[.int .i64 n, .int .i64 s, .agg #[.int .i64 c, .int .i64 o]]) = .returned (.tuple #[.int .i64 (rdLen l).n, .int .i64 (rdLen l).size, .agg #[.int .i64 (rdLen l).code, .int .i64 (rdLen l).off]]) := by rw [h]
theorem below_pair {w w2 : World} (h : Below w.heap.size w w2) (u v : Value) : Below w.heap.size w ((w2.setCell ⟨w.heap.size, 0, none⟩ u).setCell ⟨w.heap.size, 1, none⟩ v) := (h.setCell (Nat.le_refl _) _).setCell (Nat.le_refl _) _
theorem below_draw {w w2 : World} (h : Below w.heap.size w w2) : Below w.heap.size w w2.drew := below_drewN h 1
theorem below_at {B : Nat} {a w : World} (h : Below B a w) (o : Nat) (u : Value) : Below B a (w.setCell ⟨B, o, none⟩ u) := h.setCell (Nat.le_refl _) _
theorem below_at1 {B : Nat} {a w : World} (h : Below B a w) (o : Nat) (u : Value) : Below B a (w.setCell ⟨B + 1, o, none⟩ u) := h.setCell (Nat.le_succ _) _
end Go.Proofs.Ytgccjdhkpgmnoaa
