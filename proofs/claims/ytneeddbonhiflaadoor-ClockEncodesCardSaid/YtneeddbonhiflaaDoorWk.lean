/-
  What the printed walks use: blocks of two cells; a bound at a heap whose size has a name.
-/
import Derived.Test.YtneeddbonhiflaaDoorWords
namespace Go.Proofs.YtneeddbonhiflaaDoor

theorem hltB {a b c : Nat} (h : a < b) (e : b = c) : a < c := e ▸ h
/-- what the results' cells hold once they are stored -/
theorem Blk.two {w : World} {g : Nat} {t : TypeId} {x y : Value} (h : Blk w g t #[x, y]) (x' y' : Value) : Blk ((w.setCell ⟨g, 0, none⟩ x').setCell ⟨g, 1, none⟩ y') g t #[x', y'] := by
  simpa using (h.set_ 0 x').set_ 1 y'
theorem Blk.cells2 {w : World} {g : Nat} {t : TypeId} {x y : Value} (h : Blk w g t #[x, y]) : w.cell? ⟨g, 0, none⟩ = some x ∧ w.cell? ⟨g, 1, none⟩ = some y ∧ g < w.heap.size ∧ (∀ i, w.frozen? ⟨g, i, none⟩ = false) :=
  ⟨by simpa using h.cell 0, by simpa using h.cell 1, h.lt, h.frozen⟩
end Go.Proofs.YtneeddbonhiflaaDoor
