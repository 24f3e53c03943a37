/-
  Arguments that are structs or arrays, opened: a tag, two ints, two slices of bytes.
-/
import Derived.Test.YtepdgaokaneflaaFrame
import Derived.Lib.SmallJoins
namespace Go.Proofs.Ytepdgaokaneflaa
open Go.ChangeShapes Go.WideShapes Go.ChangeAt Go.RowKit

section
variable {H : Type} {enc : TypeId × Value → H} {W : World} {base b0 : Nat} {sp : Nat → Bool} {held : Bool} {v : Value} {d : DataW H} {p : List MemPlace}

theorem tag_opened (hv : Value.okWide Try.prog W .any b0 45 v) (h : DataW.Trod enc Try.prog W base sp held 45 v d p) : ∃ (c n : Int) (k : Bool), v = .agg #[.int .i64 c, .int .i64 n, .bool k] := by
  obtain ⟨v0, v1, v2, y0, y1, y2, m, rfl, _, _, h0, h1, h2⟩ := Go.Joins.open_agg3 Try.underlying45 (by kernel_rfl) (by kernel_rfl) hv h
  obtain ⟨x0, e0, _⟩ := DataW.trod_int Try.underlying3 h0
  obtain ⟨x1, e1, _⟩ := DataW.trod_int Try.underlying3 h1
  obtain ⟨x2, e2, _⟩ := DataW.trod_bool Try.underlying4 h2
  injection e0 with e0
  injection e1 with e1
  injection e2 with e2
  subst e0; subst e1; subst e2
  exact ⟨_, _, _, rfl⟩

theorem arr_form {t e : TypeId} {n : Nat} (hu : Try.prog.underlying t = some (.array n e)) (hv : Value.okWide Try.prog W .any b0 t v) : ∃ cs : Array Value, v = .agg cs ∧ cs.size = Try.prog.cellsOf t := by
  simp only [Value.okWide, hu] at hv
  obtain ⟨cs, h1, h2, _⟩ := hv
  exact ⟨cs, h1, h2⟩

theorem ints2_opened (hv : Value.okWide Try.prog W .any b0 22 v) (h : DataW.Trod enc Try.prog W base sp held 22 v d p) : ∃ c n : Int, v = .agg #[.int .i64 c, .int .i64 n] := by
  have ce : Try.prog.cellsOf 3 = 1 := by kernel_rfl
  have ca : Try.prog.cellsOf 22 = 2 := by kernel_rfl
  obtain ⟨cs, rfl, hsz⟩ := arr_form Try.underlying22 hv
  obtain ⟨x0, x1, rfl⟩ := Go.Joins.array2 (hsz.trans ca)
  obtain ⟨fuel, hf⟩ := h
  obtain ⟨xs, m, _, _, _, hl, hel⟩ := DataW.trod_array Try.underlying22 hf
  match xs, hl with
  | [y0, y1], _ =>
    have k0 := hel 0 (by omega)
    have k1 := hel 1 (by omega)
    rw [ce] at k0 k1
    obtain ⟨z0, e0, _⟩ := DataW.trod_int Try.underlying3 k0
    obtain ⟨z1, e1, _⟩ := DataW.trod_int Try.underlying3 k1
    simp [Value.cells] at e0 e1
    subst e0; subst e1
    exact ⟨_, _, rfl⟩

theorem slices2_opened (hv : Value.okWide Try.prog W .any b0 51 v) (h : DataW.Trod enc Try.prog W base sp held 51 v d p) :
    ∃ a0 n0 c0 l0 a1 n1 c1 l1, v = .agg #[.slice a0 n0 c0, .slice a1 n1 c1] ∧ Bs W a0 n0 c0 l0 ∧ Bs W a1 n1 c1 l1 := by
  have ce : Try.prog.cellsOf 30 = 1 := by kernel_rfl
  have ca : Try.prog.cellsOf 51 = 2 := by kernel_rfl
  obtain ⟨cs, rfl, hsz⟩ := arr_form Try.underlying51 hv
  obtain ⟨x0, x1, rfl⟩ := Go.Joins.array2 (hsz.trans ca)
  obtain ⟨fuel, hf⟩ := h
  obtain ⟨xs, m, _, _, _, hl, hel⟩ := DataW.trod_array Try.underlying51 hf
  match xs, hl with
  | [y0, y1], _ =>
    have k0 := hel 0 (by omega)
    have k1 := hel 1 (by omega)
    rw [ce] at k0 k1
    have form : ∀ (x : Value) (y : DataW H × List MemPlace), DataW.trod enc Try.prog W base sp held m 30 [x] = some y → ∃ a n c l, x = .slice a n c ∧ Bs W a n c l := by
      intro x y hk
      rcases open_ints Try.underlying30 Try.underlying5 (by kernel_rfl) hk with ⟨hcs, _⟩ | ⟨_, _, _, _, hcs, _⟩
      · injection hcs with hcs
        subst hcs
        exact ⟨none, 0, 0, [], rfl, Bs.nil_ W⟩
      · injection hcs with hcs
        subst hcs
        obtain ⟨l, hb⟩ := bs_opened (d := y.1) (p := y.2) ⟨m, hk⟩
        exact ⟨_, _, _, l, rfl, hb⟩
    obtain ⟨a0, n0, c0, l0, e0, b0⟩ := form x0 y0 (by simpa [Value.cells] using k0)
    obtain ⟨a1, n1, c1, l1, e1, b1⟩ := form x1 y1 (by simpa [Value.cells] using k1)
    subst e0; subst e1
    exact ⟨a0, n0, c0, l0, a1, n1, c1, l1, rfl, b0, b1⟩
end
end Go.Proofs.Ytepdgaokaneflaa
