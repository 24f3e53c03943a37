/-
  The walk of the law BitstringBits.
-/
import Derived.Test.YtfflfahhfhnkdaaBitAwake
import Derived.Deep.RegionHeld3
namespace Go.Proofs.Ytfflfahhfhnkdaa.bitstringBits
open Go.RowKit

set_option maxRecDepth 100000 in
set_option maxHeartbeats 4000000 in
theorem walk {w : World} {a : Option Addr} {n c : Nat} {l : List UInt8} {u i : Int} (b0 : Bs w a n c l) (_wi : (Lit.int .i64 i).wf = true) :
    Calls Try.prog 5 #[.agg #[.slice a n c, .int .i64 u], .int .i64 i] w fun e w' => e = .returned (.bool true) ∧ Below w.heap.size w w' := by
  have HA := Lib.hid (fun w => awakeBit_any w)
  have hnm : (n : Int) ≤ 9223372036854775807 := by have := b0.2.1; have := b0.2.2.1; unfold maxLen at this; omega
  obtain ⟨A, hA⟩ : ∃ A, w.heap.size = A := ⟨_, rfl⟩
  have Q1 := Lib.hid (bal (Below.refl _ w) (.cells #[.slice a n c, .int .i64 u] 24))
  have X1 := Lib.hid (b0.alloc (.cells #[.slice a n c, .int .i64 u] 24))
  have Z1 := Lib.hid (Blk.new w 24 #[.slice a n c, .int .i64 u])
  rw [hA] at Z1
  clear b0
  by_cases hz : n ≤ 2000
  · have hz2 : ¬ (2000 : Int) < n := by omega
    have H1 := Lib.hid (fun w a c (h : Bs w a n c l) => blen_any h u (by omega))
    have H2 := Lib.hid (fun w a c (h : Bs w a n c l) => ref_blen_any h u (by omega))
    have H3 := Lib.hid (fun w a c (h : Bs w a n c l) => bat_any h u (by omega) i)
    have H4 := Lib.hid (fun w a c (h : Bs w a n c l) => ref_bat_any h u (by omega) i)
    unfold bV at H1 H2 H3 H4
    go_enter Try.func5, Try.ntmps5
    go_wp2_with fail
    generalize w.alloc (.cells #[.slice a n c, .int .i64 u] 24) = w1 at *
    clear hA
    obtain ⟨z0, z1, zl, zf⟩ := Z1.out.cells2
    with_reducible refine (HA.out _).mono ?_
    rintro e w2 ⟨rfl, q⟩
    clear z0 z1 zl zf
    have Q2 := Lib.hid (bthen Q1.out q)
    have X2 := Lib.hid (X1.out.below q)
    have Z2 := Lib.hid (Z1.out.below q Z1.out.lt)
    clear q 
    obtain ⟨z0, z1, zl, zf⟩ := Z2.out.cells2
    go_wp2_with fail
    go_region_held3 (fun w' => w'.cell? ⟨A, 0, none⟩ = some (.slice a n c) ∧ w'.cell? ⟨A, 1, none⟩ = some (.int .i64 u)) (first | exact ⟨z0, z1⟩ | exact ⟨k0, k1⟩ | exact ⟨j0, j1⟩ | exact ⟨h0, h1⟩ | exact ⟨g0, g1⟩ | assumption)
      (first
       | (go_at_call 18; (with_reducible refine (H1.out _ _ _ X2.out.drew).mono ?_); rintro e w3 ⟨rfl, q⟩; have X3 := Lib.hid (X2.out.drew.below q); have Z3 := Lib.hid ((Z2.out.drewN 1).below q (Z2.out.drewN 1).lt); have Q3 := Lib.hid (bthen Q2.out.drew q); clear q; obtain ⟨k0, k1, kl, kf⟩ := Z3.out.cells2)
       | (go_at_call 19; (with_reducible refine (H2.out _ _ _ X3.out).mono ?_); rintro e w4 ⟨rfl, q⟩; have X4 := Lib.hid (X3.out.below q); have Z4 := Lib.hid (Z3.out.below q Z3.out.lt); have Q4 := Lib.hid (bthen Q3.out q); clear q; obtain ⟨j0, j1, jl, jf⟩ := Z4.out.cells2)
       | (go_at_call 20; (with_reducible refine (H3.out _ _ _ X4.out).mono ?_); rintro e w5 ⟨rfl, q⟩; have X5 := Lib.hid (X4.out.below q); have Z5 := Lib.hid (Z4.out.below q Z4.out.lt); have Q5 := Lib.hid (bthen Q4.out q); clear q; obtain ⟨h0, h1, hl, hf⟩ := Z5.out.cells2)
       | (go_at_call 21; (with_reducible refine (H4.out _ _ _ X5.out).mono ?_); rintro e w6 ⟨rfl, q⟩; have X6 := Lib.hid (X5.out.below q); have Z6 := Lib.hid (Z5.out.below q Z5.out.lt); have Q6 := Lib.hid (bthen Q5.out q); clear q; obtain ⟨g0, g1, gl, gf⟩ := Z6.out.cells2))
    go_wp2
    go_ret
    exact ⟨rfl, Q6.out⟩
  · have hz2 : (2000 : Int) < n := by omega
    go_enter Try.func5, Try.ntmps5
    go_wp2_with fail
    generalize w.alloc (.cells #[.slice a n c, .int .i64 u] 24) = w1 at *
    clear hA
    obtain ⟨z0, z1, zl, zf⟩ := Z1.out.cells2
    with_reducible refine (HA.out _).mono ?_
    rintro e w2 ⟨rfl, q⟩
    clear z0 z1 zl zf
    have Q2 := Lib.hid (bthen Q1.out q)
    have X2 := Lib.hid (X1.out.below q)
    have Z2 := Lib.hid (Z1.out.below q Z1.out.lt)
    clear q 
    obtain ⟨z0, z1, zl, zf⟩ := Z2.out.cells2
    go_wp2_with fail
    with_reducible refine (HA.out _).mono ?_
    rintro e w3 ⟨rfl, q⟩
    clear z0 z1 zl zf
    have Q3 := Lib.hid (bthen Q2.out q)
    have X3 := Lib.hid (X2.out.below q)
    have Z3 := Lib.hid (Z2.out.below q Z2.out.lt)
    clear q 
    obtain ⟨z0, z1, zl, zf⟩ := Z3.out.cells2
    go_wp2_with fail
    go_ret
    exact ⟨rfl, Q3.out⟩
end Go.Proofs.Ytfflfahhfhnkdaa.bitstringBits
