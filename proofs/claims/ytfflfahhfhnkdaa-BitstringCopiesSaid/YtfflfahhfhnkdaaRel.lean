/-
  What stays when a slice of the call's own is written in a loop.
-/
import Derived.Test.YtfflfahhfhnkdaaAppend
namespace Go.Proofs.Ytfflfahhfhnkdaa
open Go.RowKit

/-- an own slice is written, and nothing else but new blocks -/
def Rel (w : World) (B : Nat) (a : Option Addr) (n c : Nat) (wr : World) : Prop :=
  (∃ l, Own wr B 5 a n c l) ∧ w.grownBy wr (Value.ownBlock (.slice a n c))
theorem rel_set {w wr : World} {B g n c k : Nat} {l : List UInt8} (O : Own wr B 5 (some ⟨g, 0, none⟩) n c l) (G : w.grownBy wr (Value.ownBlock (.slice (some ⟨g, 0, none⟩) n c))) (y : UInt8) :
    Rel w B (some ⟨g, 0, none⟩) n c (wr.setCell ⟨g, k, none⟩ (.int .u8 y.toNat)) :=
  ⟨⟨_, O.stored k y⟩, only_setCell (g := g) (p := ⟨g, k, none⟩) G (.inl rfl) _⟩
/-- what lies in other blocks stays -/
theorem own_other {w wr : World} {B n c n' c' : Nat} {a a' : Option Addr} {l : List UInt8} (O : Own w B 5 a n c l) (G : w.grownBy wr (Value.ownBlock (.slice a' n' c'))) (h : ∀ x y, a = some x → a' = some y → x.block ≠ y.block) : Own wr B 5 a n c l :=
  O.keep fun x hx => G.block _ (O.base x hx).2 (fun e => by
    cases a' with
    | none => simp [Value.ownBlock] at e
    | some y => simp [Value.ownBlock] at e; exact h x y hx rfl e)
theorem blk_other {w wr : World} {g t n c : Nat} {a : Option Addr} {cs : Array Value} (O : Blk w g t cs) (G : w.grownBy wr (Value.ownBlock (.slice a n c))) (h : ∀ y, a = some y → g ≠ y.block) : Blk wr g t cs :=
  O.keep (G.block g O.lt (fun e => by
    cases a with
    | none => simp [Value.ownBlock] at e
    | some y => simp [Value.ownBlock] at e; exact h y rfl e))
theorem below_other {w0 w wr : World} {B n c : Nat} {a : Option Addr} (Q : Below B w0 w) (G : w.grownBy wr (Value.ownBlock (.slice a n c))) (hB : B ≤ w.heap.size) (h : ∀ y, a = some y → B ≤ y.block) : Below B w0 wr :=
  Q.grown G hB (fun k hk => by
    cases a with
    | none => simp [Value.ownBlock] at hk
    | some y => simp [Value.ownBlock] at hk; have := h y rfl; omega)
end Go.Proofs.Ytfflfahhfhnkdaa
