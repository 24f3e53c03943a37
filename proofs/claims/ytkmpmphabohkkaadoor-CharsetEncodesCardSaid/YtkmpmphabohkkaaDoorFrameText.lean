/-
  An argument that is a character string (a kind and its characters), or a pair of numbers, opened.
-/
import Derived.Test.YtkmpmphabohkkaaDoorFrame
import Derived.Lib.SmallJoins
namespace Go.Proofs.YtkmpmphabohkkaaDoor
open Go.ChangeShapes Go.WideShapes Go.ChangeAt Go.RowKit

section
variable {H : Type} {enc : TypeId × Value → H} {W : World} {base b0 : Nat} {sp : Nat → Bool} {held : Bool} {v : Value} {d : DataW H} {p : List MemPlace}

set_option maxRecDepth 100000 in
theorem text_opened (hv : Value.okWide Tryd.prog W .any b0 23 v) (h : DataW.Trod enc Tryd.prog W base sp held 23 v d p) : ∃ (k : Int) (s : List UInt8), v = .agg #[.int .i64 k, .string ⟨s.toArray⟩] := by
  obtain ⟨v0, v1, y0, y1, m, rfl, _, _, h0, h1⟩ := Go.Joins.open_agg2 Tryd.underlying23 (by kernel_rfl) (by kernel_rfl) hv h
  obtain ⟨x0, e0, _⟩ := DataW.trod_int Tryd.underlying3 h0
  obtain ⟨x1, e1, _⟩ := DataW.trod_string Tryd.underlying9 h1
  injection e0 with e0
  injection e1 with e1
  subst e0
  subst e1
  exact ⟨x0, x1.data.toList, by cases x1; simp⟩
set_option maxRecDepth 100000 in
theorem pair_opened (hv : Value.okWide Tryd.prog W .any b0 43 v) (h : DataW.Trod enc Tryd.prog W base sp held 43 v d p) : ∃ c n : Int, v = .agg #[.int .i64 c, .int .i64 n] := by
  have ce : Tryd.prog.cellsOf 3 = 1 := by kernel_rfl
  have ca : Tryd.prog.cellsOf 43 = 2 := by kernel_rfl
  obtain ⟨cs, rfl, hsz⟩ : ∃ cs : Array Value, v = .agg cs ∧ cs.size = Tryd.prog.cellsOf 43 := by
    simp only [Value.okWide, Tryd.underlying43] at hv
    obtain ⟨cs, h1, h2, _⟩ := hv
    exact ⟨cs, h1, h2⟩
  obtain ⟨x0, x1, rfl⟩ := Go.Joins.array2 (hsz.trans ca)
  obtain ⟨fuel, hf⟩ := h
  obtain ⟨xs, m, _, _, _, hl, hel⟩ := DataW.trod_array Tryd.underlying43 hf
  match xs, hl with
  | [y0, y1], _ =>
    have k0 := hel 0 (by omega)
    have k1 := hel 1 (by omega)
    rw [ce] at k0 k1
    obtain ⟨z0, e0, _⟩ := DataW.trod_int Tryd.underlying3 k0
    obtain ⟨z1, e1, _⟩ := DataW.trod_int Tryd.underlying3 k1
    simp [Value.cells] at e0 e1
    subst e0; subst e1
    exact ⟨_, _, rfl⟩
end
end Go.Proofs.YtkmpmphabohkkaaDoor
