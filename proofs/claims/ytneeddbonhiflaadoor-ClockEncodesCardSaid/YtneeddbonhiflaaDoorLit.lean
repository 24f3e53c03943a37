/-
  Literal slices of bytes, just made.
-/
import Derived.Test.YtneeddbonhiflaaDoorWords
namespace Go.Proofs.YtneeddbonhiflaaDoor
open Go.RowKit

/-- a literal slice of bytes, just made, is the call's own -/
theorem own_lit {w : World} {B : Nat} (e : TypeId) (cs : Array Value) (l : List UInt8) (n : Nat) (h : cs.toList = cellsOf l) (hn : l.length = n) (hm : n ≤ maxLen) (hB : B ≤ w.heap.size) : Own (w.alloc (.cells cs e)) B e (some ⟨w.heap.size, 0, none⟩) n n l := by
  have hs : cs.size = n * 1 := by
    have : cs.toList.length = (cellsOf l).length := by rw [h]
    rw [cellsOf_len] at this
    simp at this
    omega
  have h1 := World.ownsRow_lit (e := e) (size := 1) (base := B) w cs n hB hm hs
  rw [h] at h1
  exact h1
/-- a literal slice of bytes, just made -/
theorem bs_lit (w : World) (e : TypeId) (cs : Array Value) (l : List UInt8) (n : Nat) (h : cs.toList = cellsOf l) (hn : l.length = n) (hm : n ≤ maxLen) : Bs (w.alloc (.cells cs e)) (some ⟨w.heap.size, 0, none⟩) n n l :=
  (own_lit (B := 0) e cs l n h hn hm (Nat.zero_le _)).bs
theorem bs_lit_at {w : World} {H : Nat} {e : TypeId} {cs : Array Value} {l : List UInt8} {n : Nat} (hH : w.heap.size = H) (h : cs.toList = cellsOf l) (hn : l.length = n) (hm : n ≤ maxLen) : Bs (w.alloc (.cells cs e)) (some ⟨H, 0, none⟩) n n l := by
  subst hH
  exact bs_lit w e cs l n h hn hm
end Go.Proofs.YtneeddbonhiflaaDoor
