/-
  An argument that is a point in time (six numbers), opened.
-/
import Derived.Test.YtneeddbonhiflaaDoorFrame
import Derived.Test.YtneeddbonhiflaaDoorClDays
import Derived.Lib.SmallJoins
namespace Go.Proofs.YtneeddbonhiflaaDoor
open Go.ChangeShapes Go.WideShapes Go.ChangeAt Go.RowKit

section
variable {H : Type} {enc : TypeId × Value → H} {W : World} {base b0 : Nat} {sp : Nat → Bool} {held : Bool} {v : Value} {d : DataW H} {p : List MemPlace}

set_option maxRecDepth 100000 in
theorem time_opened (hv : Value.okWide Tryd.prog W .any b0 23 v) (h : DataW.Trod enc Tryd.prog W base sp held 23 v d p) : ∃ t : Tm, v = tmV t := by
  have hC : Tryd.prog.cellsOf 23 = 6 := by kernel_rfl
  have hI : Tryd.prog.cellsOf 3 = 1 := by kernel_rfl
  obtain ⟨cs, rfl, hsz⟩ := okWide_struct Tryd.underlying23 hv
  rw [hC] at hsz
  obtain ⟨l⟩ := cs
  match l, hsz with
  | [c0, c1, c2, c3, c4, c5], _ =>
    obtain ⟨fuel, hf⟩ := h
    obtain ⟨xs, n, _, _, _, hlen, hg⟩ := DataW.trod_struct Tryd.underlying23 hf
    match xs, hlen with
    | [y0, y1, y2, y3, y4, y5], _ =>
      have g0 := hg 0 _ rfl
      have g1 := hg 1 _ rfl
      have g2 := hg 2 _ rfl
      have g3 := hg 3 _ rfl
      have g4 := hg 4 _ rfl
      have g5 := hg 5 _ rfl
      simp [Value.cells, hI] at g0 g1 g2 g3 g4 g5
      obtain ⟨x0, e0, _⟩ := DataW.trod_int Tryd.underlying3 g0
      obtain ⟨x1, e1, _⟩ := DataW.trod_int Tryd.underlying3 g1
      obtain ⟨x2, e2, _⟩ := DataW.trod_int Tryd.underlying3 g2
      obtain ⟨x3, e3, _⟩ := DataW.trod_int Tryd.underlying3 g3
      obtain ⟨x4, e4, _⟩ := DataW.trod_int Tryd.underlying3 g4
      obtain ⟨x5, e5, _⟩ := DataW.trod_int Tryd.underlying3 g5
      injection e0 with e0
      injection e1 with e1
      injection e2 with e2
      injection e3 with e3
      injection e4 with e4
      injection e5 with e5
      subst e0; subst e1; subst e2; subst e3; subst e4; subst e5
      exact ⟨⟨x0, x1, x2, x3, x4, x5⟩, rfl⟩
end
end Go.Proofs.YtneeddbonhiflaaDoor
