/-
  A string turned into bytes, in any world.
-/
import Derived.Test.YtneeddbonhiflaaDoorBytesEq
import Derived.Laws.IdiomStrings
namespace Go.Proofs.YtneeddbonhiflaaDoor
open Go.RowKit

theorem conv_bs {w w1 : World} {s : List UInt8} {cap : Nat} (hz : s.length ≤ cap) (hc : cap ≤ maxLen) {fz : Nat × Nat} (hw : w1 = w.drew.alloc (.cells (bytesRow ⟨s.toArray⟩ cap) 5 fz)) : Bs w1 (some ⟨w.heap.size, 0, none⟩) s.length cap s := by
  subst hw
  refine ⟨rfl, hz, hc, fun _ => ⟨_, _, rfl, by simp, fun i hi => ?_⟩⟩
  have hb : (w.drew.alloc (.cells (bytesRow ⟨s.toArray⟩ cap) 5 fz)).heap[w.heap.size]? = some (.cells (bytesRow ⟨s.toArray⟩ cap) 5 fz) := (MapKept.heap_alloc w.drew _).1
  unfold World.cell?
  dsimp only
  rw [hb]
  dsimp only
  rw [Nat.zero_add, bytesRow_at ⟨s.toArray⟩ cap i hi]
  rfl
/-- a string turned into bytes: what is returned, as functions of the world before -/
theorem conv_any (s : List UInt8) (hz : s.length ≤ 1000000) : ∃ (fa : World → Option Addr) (fc : World → Nat) (fw : World → World), ∀ v : World,
    (convert 9 25 (.string ⟨s.toArray⟩)).run Tryd.prog v = .ok (.slice (fa v) s.length (fc v)) (fw v) ∧ Bs (fw v) (fa v) s.length (fc v) s ∧ Below v.heap.size v (fw v) := by
  refine ⟨fun v => some ⟨v.heap.size, 0, none⟩, fun v => grownCap v s.length 0 5, fun v => v.drew.alloc (.cells (bytesRow ⟨s.toArray⟩ (grownCap v s.length 0 5)) 5 ((bytesRow ⟨s.toArray⟩ (grownCap v s.length 0 5)).size, (bytesRow ⟨s.toArray⟩ (grownCap v s.length 0 5)).size + 1)), fun v => ⟨?_, ?_, ?_⟩⟩
  · exact run_bytes_of_string v 9 25 5 ⟨s.toArray⟩ Tryd.underlying9 Tryd.underlying25 Tryd.underlying5
  · exact conv_bs (grownCap_ge v s.length 0 5) (grownCap_le_maxLen v s.length 0 5 (by unfold maxLen; omega)) rfl
  · exact bal (Below.refl v.heap.size v).drew _
end Go.Proofs.YtneeddbonhiflaaDoor
