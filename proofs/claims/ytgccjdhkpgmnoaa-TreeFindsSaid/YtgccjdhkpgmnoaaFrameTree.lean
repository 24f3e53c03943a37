/-
  Arguments that are trees or slices of numbers, opened.
-/
import Derived.Test.YtgccjdhkpgmnoaaFrame
import Derived.Test.YtgccjdhkpgmnoaaTreeOpen
import Derived.Test.YtgccjdhkpgmnoaaTreeFindMath
namespace Go.Proofs.Ytgccjdhkpgmnoaa
open Go.ChangeShapes Go.WideShapes Go.ChangeAt Go.RowKit

section
variable {H : Type} {enc : TypeId × Value → H} {W : World} {base b0 : Nat} {sp : Nat → Bool} {held : Bool} {v : Value} {d : DataW H} {p : List MemPlace}

theorem node_opened (hv : Value.okWide Try.prog W .any b0 26 v) (h : DataW.Trod enc Try.prog W base sp held 26 v d p) : ∃ cs t, v = .agg (List.toArray cs) ∧ NdCs W (fun _ => True) cs t := by
  simp only [Value.okWide, Try.underlying26] at hv
  obtain ⟨cs, rfl, _, _⟩ := hv
  obtain ⟨fuel, hf⟩ := h
  obtain ⟨t, ht⟩ := node_open Try.underlying26 (by kernel_rfl) (by kernel_rfl) Try.underlying3 Try.underlying3 Try.underlying4 Try.underlying22 Try.underlying24 Try.underlying5 (by kernel_rfl) fuel _ _ hf
  exact ⟨cs.toList, t, rfl, ht⟩

theorem iz_opened {a : Option Addr} {n c : Nat} (h : DataW.Trod enc Try.prog W base sp held 45 (.slice a n c) d p) : ∃ l, Iz W a n c l := by
  obtain ⟨fuel, hf⟩ := h
  rcases open_ints Try.underlying45 Try.underlying3 (by kernel_rfl) hf with ⟨hcs, _⟩ | ⟨x, l, cc, zs, hcs, _, hl, hm, hz, _, hcell, hwz⟩
  · simp [Value.cells] at hcs
    obtain ⟨rfl, rfl, rfl⟩ := hcs
    exact ⟨[], rfl, Nat.le_refl _, by simp [maxLen], fun h => absurd h (by omega), fun z hz => absurd hz (by simp)⟩
  · simp [Value.cells] at hcs
    obtain ⟨rfl, rfl, rfl⟩ := hcs
    have hz' : n ≤ zs.length := by
      rw [hz]
      split <;> omega
    refine ⟨zs.take n, by rw [List.length_take]; omega, hl, hm, fun hn => ?_, fun z hz => bounds_i64 (hwz z (List.mem_of_mem_take hz))⟩
    have h0 := hcell 0 (by omega)
    have e0 : x.add 0 = x := by unfold Addr.add; simp
    rw [e0] at h0
    obtain ⟨hx, hb⟩ := addr_of_cell h0
    refine ⟨x.block, x.off, by rw [← hx], hb, fun i hi => ?_⟩
    have hi' : i < zs.length := by rw [List.length_take] at hi; omega
    have hc := hcell i hi'
    have e1 : x.add i = ⟨x.block, x.off + i, none⟩ := by have := add_plain x.block x.off i; rwa [← hx] at this
    rw [e1] at hc
    rw [hc, List.getElem_take]
    congr 2
    rw [List.getD_eq_getElem?_getD, List.getElem?_eq_getElem hi']
    rfl
end
end Go.Proofs.Ytgccjdhkpgmnoaa
