/-
  What the frames of the laws on object identifiers share: a row of 32-bit numbers, opened; what the listed package-level variables hold.
-/
import Derived.Test.YtepicefbpadbhaaDoorFrame
import Derived.Test.YtepicefbpadbhaaDoorOidWd
import Derived.Lib.LaidTab
import Derived.Stop.LaidErr
namespace Go.Proofs.YtepicefbpadbhaaDoor
open Go.ChangeShapes Go.WideShapes Go.ChangeAt Go.RowKit

theorem u32_opened {H : Type} {enc : TypeId × Value → H} {W : World} {base : Nat} {sp : Nat → Bool} {held : Bool} {a : Option Addr} {n c : Nat} {d : DataW H} {p : List MemPlace}
    (h : DataW.Trod enc Tryd.prog W base sp held 22 (.slice a n c) d p) : ∃ L, Uk .u32 W a n c L ∧ ∀ x ∈ L, x ≤ maxArc := by
  obtain ⟨fuel, hf⟩ := h
  rcases open_ints Tryd.underlying22 Tryd.underlying45 (by kernel_rfl) hf with ⟨hcs, _⟩ | ⟨x, l, cc, zs, hcs, _, hl, hm, hz, _, hcell, hwz⟩
  · simp [Value.cells] at hcs
    obtain ⟨rfl, rfl, rfl⟩ := hcs
    exact ⟨[], Uk.nil_ _ _, by simp⟩
  · simp [Value.cells] at hcs
    obtain ⟨rfl, rfl, rfl⟩ := hcs
    have hz' : n ≤ zs.length := by
      rw [hz]
      split <;> omega
    have hlen : ((zs.take n).map Int.toNat).length = n := by rw [List.length_map, List.length_take]; omega
    refine ⟨(zs.take n).map Int.toNat, ⟨hlen, hl, hm, fun hn => ?_⟩, ?_⟩
    · have h0 := hcell 0 (by omega)
      have e0 : x.add 0 = x := by unfold Addr.add; simp
      rw [e0] at h0
      obtain ⟨hx, hb⟩ := addr_of_cell h0
      refine ⟨x.block, x.off, by rw [← hx], hb, fun i hi => ?_⟩
      rw [hlen] at hi
      have hi' : i < zs.length := by omega
      have hc := hcell i hi'
      have e1 : x.add i = ⟨x.block, x.off + i, none⟩ := by have := add_plain x.block x.off i; rwa [← hx] at this
      rw [e1] at hc
      rw [hc]
      have hbd := bounds_u32 (hwz _ (List.getElem_mem hi'))
      have e2 : zs.getD i 0 = zs[i] := by rw [List.getD_eq_getElem?_getD, List.getElem?_eq_getElem hi']; rfl
      rw [e2, List.getElem_map, List.getElem_take]
      congr 2
      omega
    · intro y hy
      obtain ⟨z, hz2, rfl⟩ := List.mem_map.1 hy
      have hbd := bounds_u32 (hwz z (List.mem_of_mem_take hz2))
      unfold maxArc
      omega
theorem err_is {n : String} {g : Nat} {W : World} {v : Value} (hg : Tryd.prog.globalNamed n = some g) (h : W.var? Tryd.prog n = some #[v]) (hv : v = .nilIface ∨ ∃ te pe, v = .iface te pe) : ErrIs W g :=
  ⟨v, by simpa using World.var?_cell hg h 0, hv⟩
theorem starErr : ("*errors.errorString" : String) = "*" ++ "errors.errorString" := by decide +kernel
theorem rowErr (u : TypeId) (h : Tryd.prog.typeName? 3 u = some "*errors.errorString") : u = 104 :=
  typeName_ptr_named (nm := "errors.errorString") (by rw [← starErr]; kernel_rfl) (by kernel_rfl) (by decide) u (by rw [← starErr]; exact h)
theorem wd_of {W : World} (hL : laidMet Tryd.prog Rows.oidTextsRow.laid W) : Wd W := by
  have h1 : laidMet Tryd.prog (("internal/strconv.uint64pow10", Lib.tabData .u64 Lib.pow10Tab) :: ("unicode/utf8.acceptRanges", Rows.laid_unicode_utf8_acceptRanges) :: ("strconv.ErrRange", Rows.laid_strconv_ErrRange) :: ("strconv.ErrSyntax", Rows.laid_strconv_ErrSyntax) :: ("unicode/utf8.first", Rows.laid_unicode_utf8_first) :: []) W := laidMet.tail (laidMet.tail hL)
  have h2 : laidMet Tryd.prog (("strconv.ErrRange", Rows.laid_strconv_ErrRange) :: ("strconv.ErrSyntax", Rows.laid_strconv_ErrSyntax) :: ("unicode/utf8.first", Rows.laid_unicode_utf8_first) :: []) W := laidMet.tail (laidMet.tail h1)
  have h3 := laidMet.tail h2
  obtain ⟨a0, s0, v0, _, _, _⟩ := laid_sentinel h2 (g := 5) (ti := 63) (by kernel_rfl) (by kernel_rfl) Tryd.underlying63 rowErr Tryd.underlying104 Tryd.underlying106 rfl rfl Tryd.underlying9 (by kernel_rfl) (by kernel_rfl)
  obtain ⟨a1, s1, v1, _, _, _⟩ := laid_sentinel h3 (g := 4) (ti := 63) (by kernel_rfl) (by kernel_rfl) Tryd.underlying63 rowErr Tryd.underlying104 Tryd.underlying106 rfl rfl Tryd.underlying9 (by kernel_rfl) (by kernel_rfl)
  exact ⟨Lib.tabIs_of_head (g := 0) (t := 87) (e := 49) (n := 20) (by kernel_rfl) (by kernel_rfl) Tryd.underlying87 Tryd.underlying49 (by kernel_rfl) (by kernel_rfl) h1,
    err_is (by kernel_rfl) v1 (.inr ⟨_, _, rfl⟩), err_is (by kernel_rfl) v0 (.inr ⟨_, _, rfl⟩)⟩
end Go.Proofs.YtepicefbpadbhaaDoor
