/-
  An argument that is a bit string, opened.
-/
import Derived.Test.YtfflfahhfhnkdaaFrame
import Derived.Lib.SmallJoins
namespace Go.Proofs.Ytfflfahhfhnkdaa
open Go.ChangeShapes Go.WideShapes Go.ChangeAt Go.RowKit

section
variable {H : Type} {enc : TypeId × Value → H} {W : World} {base b0 : Nat} {sp : Nat → Bool} {held : Bool} {v : Value} {d : DataW H} {p : List MemPlace}

theorem bits_opened (hv : Value.okWide Try.prog W .any b0 24 v) (h : DataW.Trod enc Try.prog W base sp held 24 v d p) : ∃ (a : Option Addr) (n c : Nat) (l : List UInt8) (u : Int), v = .agg #[.slice a n c, .int .i64 u] ∧ Bs W a n c l := by
  obtain ⟨v0, v1, y0, y1, m, rfl, _, _, h0, h1⟩ := Go.Joins.open_agg2 Try.underlying24 (by kernel_rfl) (by kernel_rfl) hv h
  obtain ⟨x1, e1, _⟩ := DataW.trod_int Try.underlying3 h1
  injection e1 with e1
  subst e1
  rcases open_ints Try.underlying22 Try.underlying5 (by kernel_rfl) h0 with ⟨hcs, _⟩ | ⟨_, _, _, _, hcs, _⟩
  · injection hcs with hcs
    subst hcs
    exact ⟨none, 0, 0, [], _, rfl, Bs.nil_ W⟩
  · injection hcs with hcs
    subst hcs
    obtain ⟨l, hb⟩ := bs_opened (d := y0.1) (p := y0.2) ⟨m, h0⟩
    exact ⟨_, _, _, l, _, rfl, hb⟩
end
end Go.Proofs.Ytfflfahhfhnkdaa
