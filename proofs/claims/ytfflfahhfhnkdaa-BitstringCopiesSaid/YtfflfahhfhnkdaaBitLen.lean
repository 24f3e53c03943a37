/-
  Contracts of Len, of the program and of the reference.
-/
import Derived.Test.YtfflfahhfhnkdaaBitValid
namespace Go.Proofs.Ytfflfahhfhnkdaa
open Go.RowKit

theorem lenB_valid {l : List UInt8} {u : Int} (h : vB l u = true) : lenB l u = 8 * l.length - u := if_pos h
theorem lenB_not {l : List UInt8} {u : Int} (h : vB l u = false) : lenB l u = 0 := by
  unfold lenB
  rw [if_neg (by rw [h]; decide)]

set_option maxRecDepth 100000 in
set_option maxHeartbeats 2000000 in
theorem blen_any {w : World} {a : Option Addr} {n c : Nat} {l : List UInt8} (h : Bs w a n c l) (u : Int) (hz : n ≤ 1000000) :
    Calls Try.prog 18 #[bV a n c u] w fun e w' => e = .returned (.int .i64 (lenB l u)) ∧ Below w.heap.size w w' := by
  unfold bV
  have hl := h.len
  have hn0 : (0 : Int) ≤ n := by omega
  have hn1 : (n : Int) ≤ 1000000 := by omega
  have HX := Lib.hid h
  have HV := Lib.hid (bvalid_any (h.alloc (.cells #[.slice a n c, .int .i64 u] 24)) u)
  unfold bV at HV
  clear h
  rcases hv : vB l u with _ | _
  · rw [hv] at HV
    rw [lenB_not hv]
    clear hv hl
    go_enter Try.func18, Try.ntmps18
    go_wp2_with fail
    with_reducible refine HV.out.mono ?_
    rintro e w1 ⟨rfl, q⟩
    have QN := Lib.hid (bthen (bal (Below.refl _ _) _) q)
    clear q
    go_wp2_with fail
    go_ret
    exact ⟨rfl, QN.out⟩
  · rw [hv] at HV
    rw [lenB_valid hv, hl]
    obtain ⟨hu1, hu2, _⟩ := vB_true.1 hv
    have Z := Lib.hid (Blk.new w 24 #[.slice a n c, .int .i64 u])
    clear hv hl
    go_enter Try.func18, Try.ntmps18
    go_wp2_with fail
    with_reducible refine HV.out.mono ?_
    rintro e w1 ⟨rfl, q⟩
    have QN := Lib.hid (bthen (bal (Below.refl _ _) _) q)
    have z0 := (Z.out.below q (by simp)).cell 0
    have z1 := (Z.out.below q (by simp)).cell 1
    have zl := (Z.out.below q (by simp)).lt
    simp only [List.getElem?_toArray, List.getElem?_cons_zero, List.getElem?_cons_succ] at z0 z1
    clear q
    go_wp2_with fail
    go_ret
    exact ⟨ret_int (by omega), QN.out⟩

set_option maxRecDepth 100000 in
set_option maxHeartbeats 2000000 in
theorem ref_blen_any {w : World} {a : Option Addr} {n c : Nat} {l : List UInt8} (h : Bs w a n c l) (u : Int) (hz : n ≤ 1000000) :
    Calls Try.prog 19 #[bV a n c u] w fun e w' => e = .returned (.int .i64 (lenB l u)) ∧ Below w.heap.size w w' := by
  unfold bV
  have hl := h.len
  have hn0 : (0 : Int) ≤ n := by omega
  have hn1 : (n : Int) ≤ 1000000 := by omega
  have HX := Lib.hid h
  have HV := Lib.hid (ref_bvalid_any (h.alloc (.cells #[.slice a n c, .int .i64 u] 24)) u)
  unfold bV at HV
  clear h
  rcases hv : vB l u with _ | _
  · rw [hv] at HV
    rw [lenB_not hv]
    clear hv hl
    go_enter Try.func19, Try.ntmps19
    go_wp2_with fail
    with_reducible refine HV.out.mono ?_
    rintro e w1 ⟨rfl, q⟩
    have QN := Lib.hid (bthen (bal (Below.refl _ _) _) q)
    clear q
    go_wp2_with fail
    go_ret
    exact ⟨rfl, QN.out⟩
  · rw [hv] at HV
    rw [lenB_valid hv, hl]
    obtain ⟨hu1, hu2, _⟩ := vB_true.1 hv
    have Z := Lib.hid (Blk.new w 24 #[.slice a n c, .int .i64 u])
    clear hv hl
    go_enter Try.func19, Try.ntmps19
    go_wp2_with fail
    with_reducible refine HV.out.mono ?_
    rintro e w1 ⟨rfl, q⟩
    have QN := Lib.hid (bthen (bal (Below.refl _ _) _) q)
    have z0 := (Z.out.below q (by simp)).cell 0
    have z1 := (Z.out.below q (by simp)).cell 1
    have zl := (Z.out.below q (by simp)).lt
    simp only [List.getElem?_toArray, List.getElem?_cons_zero, List.getElem?_cons_succ] at z0 z1
    clear q
    go_wp2_with fail
    go_ret
    exact ⟨ret_int (by omega), QN.out⟩
end Go.Proofs.Ytfflfahhfhnkdaa
