/-
  The argument of calls (a slice of structs of two fields), opened.
-/
import Derived.Test.YtkjfblhaondnnaaFrame
import Derived.Test.YtkjfblhaondnnaaCursorRunsWalk
import Derived.Deep.SlicePairs
namespace Go.Proofs.Ytkjfblhaondnnaa.cursorRuns
open Go.ChangeShapes Go.WideShapes Go.ChangeAt Go.RowKit Go.Deep

theorem ops_opened {H : Type} {enc : TypeId × Value → H} {W : World} {base : Nat} {sp : Nat → Bool} {held : Bool} {a : Option Addr} {n c : Nat} {d : DataW H} {p : List MemPlace}
    (h : DataW.Trod enc Try.prog W base sp held 23 (.slice a n c) d p) : Ops W a n := by
  obtain ⟨fuel, hf⟩ := h
  rcases open_slice_pairs Try.underlying23 Try.underlying30 (by kernel_rfl) (by kernel_rfl) (by kernel_rfl) (by kernel_rfl) (by kernel_rfl) hf with ⟨hcs, _⟩ | ⟨x, l, cc, m, q, V0, V1, D0, D1, P0, P1, hcs, _, hl, _, hm, _, hcell⟩
  · simp [Value.cells] at hcs
    obtain ⟨rfl, rfl, rfl⟩ := hcs
    intro hn
    omega
  · simp [Value.cells] at hcs
    obtain ⟨rfl, rfl, rfl⟩ := hcs
    intro hn
    have hnm : n ≤ m := by
      rw [hm]
      split <;> omega
    have h0 := (hcell 0 (by omega)).1
    have e0 : x.add (0 * 2) = x := by unfold Addr.add; simp
    rw [e0] at h0
    obtain ⟨hx, hb⟩ := addr_of_cell h0
    refine ⟨x.block, x.off, by rw [← hx], hb, fun i hi => ?_⟩
    obtain ⟨c1, c2, t1, t2⟩ := hcell i (by omega)
    have e1 : x.add (i * 2) = ⟨x.block, x.off + i * 2, none⟩ := by have := add_plain x.block x.off (i * 2); rwa [← hx] at this
    have e2 : x.add (i * 2 + 1) = ⟨x.block, x.off + i * 2 + 1, none⟩ := by have := add_plain x.block x.off (i * 2 + 1); rw [← hx] at this; rw [this, Nat.add_assoc]
    rw [e1] at c1
    rw [e2] at c2
    obtain ⟨y, hy, _⟩ := DataW.trod_int Try.underlying5 t1
    obtain ⟨z, hz, _⟩ := DataW.trod_int Try.underlying3 t2
    simp at hy hz
    exact ⟨y, z, by rw [c1, hy], by rw [c2, hz]⟩
end Go.Proofs.Ytkjfblhaondnnaa.cursorRuns
