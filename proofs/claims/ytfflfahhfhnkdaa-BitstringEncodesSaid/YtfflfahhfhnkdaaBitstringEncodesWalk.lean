/-
  The walk of the law BitstringEncodes.
-/
import Derived.Test.YtfflfahhfhnkdaaBitAwake
import Derived.Test.YtfflfahhfhnkdaaBitSame
import Derived.Deep.RegionHeld3
namespace Go.Proofs.Ytfflfahhfhnkdaa.bitstringEncodes
open Go.RowKit

set_option maxRecDepth 100000 in
set_option maxHeartbeats 4000000 in
theorem walk {w : World} {a : Option Addr} {n c : Nat} {l : List UInt8} {u : Int} (b0 : Bs w a n c l) :
    Calls Try.prog 3 #[.agg #[.slice a n c, .int .i64 u]] w fun e w' => e = .returned (.bool true) ∧ Below w.heap.size w w' := by
  have HA := Lib.hid (fun w => awakeBit_any w)
  have hn := b0.len
  subst hn
  have hnm : (l.length : Int) ≤ 9223372036854775807 := by have := b0.2.1; have := b0.2.2.1; unfold maxLen at this; omega
  obtain ⟨A, hA⟩ : ∃ A, w.heap.size = A := ⟨_, rfl⟩
  have Q1 := Lib.hid (bal (Below.refl _ w) (.cells #[.slice a l.length c, .int .i64 u] 24))
  have X1 := Lib.hid (b0.alloc (.cells #[.slice a l.length c, .int .i64 u] 24))
  have Z1 := Lib.hid (Blk.new w 24 #[.slice a l.length c, .int .i64 u])
  rw [hA] at Z1
  clear b0
  by_cases hz : l.length ≤ 2000
  · have hz2 : ¬ (2000 : Int) < l.length := by omega
    rcases hv : vB l u with _ | _
    · have H1 := Lib.hid (fun w a c (h : Bs w a l.length c l) => benc_any h u (by omega))
      have H2 := Lib.hid (fun w a c (h : Bs w a l.length c l) => ref_benc_any h u (by omega))
      have H3 := Lib.hid (fun w a c (h : Bs w a l.length c l) => bvalid_any h u)
      have H4 := Lib.hid (fun w a c (h : Bs w a l.length c l) => ref_bvalid_any h u)
      rw [hv] at H3 H4
      rw [(eb_no hv).1, (eb_no hv).2] at H1 H2
      unfold bV at H1 H2 H3 H4
      have HB := Lib.hid (fun w a b c d (hx : Bs w a ([] : List UInt8).length c []) (hy : Bs w b ([] : List UInt8).length d []) => bytes_any hx hy)
      rw [eqB_self] at HB
      clear hv
      simp only [List.length_nil] at H1 H2 HB
      go_enter Try.func3, Try.ntmps3
      go_wp2_with fail
      generalize w.alloc (.cells #[.slice a l.length c, .int .i64 u] 24) = w1 at *
      clear hA
      obtain ⟨z0, z1, zl, zf⟩ := Z1.out.cells2
      with_reducible refine (HA.out _).mono ?_
      rintro e w2 ⟨rfl, q⟩
      clear z0 z1 zl zf
      have Q2 := Lib.hid (bthen Q1.out q)
      have X2 := Lib.hid (X1.out.below q)
      have Z2 := Lib.hid (Z1.out.below q Z1.out.lt)
      clear q 
      obtain ⟨z0, z1, zl, zf⟩ := Z2.out.cells2
      go_wp2_with fail
      with_reducible refine (H1.out _ _ _ X2.out).mono ?_
      rintro e w3 ⟨a3, c3, rfl, ho, q⟩
      clear z0 z1 zl zf
      have Q3 := Lib.hid (bthen Q2.out q)
      have X3 := Lib.hid (X2.out.below q)
      have Z3 := Lib.hid (Z2.out.below q Z2.out.lt)
      have C3 := Lib.hid (ho.bs)
      clear q ho
      obtain ⟨z0, z1, zl, zf⟩ := Z3.out.cells2
      go_wp2_with fail
      with_reducible refine (H2.out _ _ _ X3.out).mono ?_
      rintro e w4 ⟨a4, c4, rfl, ho, q⟩
      clear z0 z1 zl zf
      have Q4 := Lib.hid (bthen Q3.out q)
      have X4 := Lib.hid (X3.out.below q)
      have Z4 := Lib.hid (Z3.out.below q Z3.out.lt)
      have C4 := Lib.hid (C3.out.below q)
      have D4 := Lib.hid (ho.bs)
      clear q ho
      obtain ⟨z0, z1, zl, zf⟩ := Z4.out.cells2
      go_wp2_with fail
      go_region_held3 (fun w' => w'.cell? ⟨A, 0, none⟩ = some (.slice a l.length c) ∧ w'.cell? ⟨A, 1, none⟩ = some (.int .i64 u)) (first | exact ⟨z0, z1⟩ | exact ⟨k0, k1⟩ | exact ⟨j0, j1⟩ | assumption)
        (first
         | (go_at_call 12; (with_reducible refine (HB.out _ _ _ _ _ C4.out.drew D4.out.drew).mono ?_); rintro e w' ⟨rfl, rfl⟩)
         | (go_at_call 13; (with_reducible refine (H3.out _ _ _ X4.out.drew).mono ?_); rintro e w5 ⟨rfl, q⟩; have Q5 := Lib.hid (bthen Q4.out.drew q); have X5 := Lib.hid (X4.out.drew.below q); have Z5 := Lib.hid ((Z4.out.drewN 1).below q (Z4.out.drewN 1).lt); have C5 := Lib.hid (C4.out.drew.below q); have D5 := Lib.hid (D4.out.drew.below q); clear q; obtain ⟨k0, k1, kl, kf⟩ := Z5.out.cells2)
         | (go_at_call 14; (with_reducible refine (H4.out _ _ _ X5.out).mono ?_); rintro e w6 ⟨rfl, q⟩; have Q6 := Lib.hid (bthen Q5.out q); have X6 := Lib.hid (X5.out.below q); have Z6 := Lib.hid (Z5.out.below q Z5.out.lt); have C6 := Lib.hid (C5.out.below q); have D6 := Lib.hid (D5.out.below q); clear q; obtain ⟨j0, j1, jl, jf⟩ := Z6.out.cells2))
      clear z0 z1 zl zf k0 k1 kl kf j0 j1 jl jf
      obtain ⟨z0, z1, zl, zf⟩ := Z6.out.cells2
      go_wp2_with fail
      go_region_held3 (fun w' => w'.cell? ⟨A, 0, none⟩ = some (.slice a l.length c) ∧ w'.cell? ⟨A, 1, none⟩ = some (.int .i64 u)) (first | exact ⟨z0, z1⟩ | exact ⟨k0, k1⟩ | exact ⟨j0, j1⟩ | assumption)
        (first
         | (go_at_call 12; (with_reducible refine (HB.out _ _ _ _ _ C6.out.drew D6.out.drew).mono ?_); rintro e w' ⟨rfl, rfl⟩)
         | (go_at_call 13; (with_reducible refine (H3.out _ _ _ X6.out.drew).mono ?_); rintro e w7 ⟨rfl, q⟩; have Q7 := Lib.hid (bthen Q6.out.drew q); have X7 := Lib.hid (X6.out.drew.below q); have Z7 := Lib.hid ((Z6.out.drewN 1).below q (Z6.out.drewN 1).lt); have C7 := Lib.hid (C6.out.drew.below q); have D7 := Lib.hid (D6.out.drew.below q); clear q; obtain ⟨k0, k1, kl, kf⟩ := Z7.out.cells2)
         | (go_at_call 14; (with_reducible refine (H4.out _ _ _ X7.out).mono ?_); rintro e w8 ⟨rfl, q⟩; have Q8 := Lib.hid (bthen Q7.out q); have X8 := Lib.hid (X7.out.below q); have Z8 := Lib.hid (Z7.out.below q Z7.out.lt); have C8 := Lib.hid (C7.out.below q); have D8 := Lib.hid (D7.out.below q); clear q; obtain ⟨j0, j1, jl, jf⟩ := Z8.out.cells2))
      go_wp2
      go_ret
      exact ⟨rfl, Q8.out⟩
    · obtain ⟨hu1, hu2, _⟩ := vB_true.1 hv
      obtain ⟨x, hx, hu⟩ : ∃ x : UInt8, UInt8.ofNat u.toNat = x ∧ u = (x.toNat : Int) := ⟨_, rfl, byte_u hu1 hu2⟩
      have H1 := Lib.hid (fun w a c (h : Bs w a l.length c l) => benc_any h u (by omega))
      have H2 := Lib.hid (fun w a c (h : Bs w a l.length c l) => ref_benc_any h u (by omega))
      have H3 := Lib.hid (fun w a c (h : Bs w a l.length c l) => bvalid_any h u)
      have H4 := Lib.hid (fun w a c (h : Bs w a l.length c l) => ref_bvalid_any h u)
      rw [hv] at H3 H4
      rw [(eb_yes hv).1, (eb_yes hv).2] at H1 H2
      unfold bV at H1 H2 H3 H4
      rw [hx] at H1 H2
      subst hu
      have hok : insOk (x :: l) = true := by rw [(ins_cons x l).1]; exact hv
      have H5 := Lib.hid (fun w a c (h : Bs w a (x :: l).length c (x :: l)) => bdec_any h (by simp only [List.length_cons]; omega))
      rw [(bitsOf_yes hok).1, (bitsOf_yes hok).2] at H5
      have HB := Lib.hid (fun w a b c d (hx : Bs w a (x :: l).length c (x :: l)) (hy : Bs w b (x :: l).length d (x :: l)) => bytes_any hx hy)
      rw [eqB_self] at HB
      have H6 := Lib.hid (fun w a b c d (hx : Bs w a l.length c l) (hy : Bs w b l.length d l) => bits_self (u := (x.toNat : Int)) hx hy)
      unfold bV at H5 H6
      clear hv hx hok hu1 hu2
      have EI : Hid (insB (x :: l) = l ∧ insU (x :: l) = x.toNat) := ⟨rfl, rfl⟩
      simp only [EI.out.1, EI.out.2] at H5
      generalize hE : x :: l = E at *
      clear hE EI
      go_enter Try.func3, Try.ntmps3
      go_wp2_with fail
      generalize w.alloc (.cells #[.slice a l.length c, .int .i64 (x.toNat : Int)] 24) = w1 at *
      clear hA
      obtain ⟨z0, z1, zl, zf⟩ := Z1.out.cells2
      with_reducible refine (HA.out _).mono ?_
      rintro e w2 ⟨rfl, q⟩
      clear z0 z1 zl zf
      have Q2 := Lib.hid (bthen Q1.out q)
      have X2 := Lib.hid (X1.out.below q)
      have Z2 := Lib.hid (Z1.out.below q Z1.out.lt)
      clear q 
      obtain ⟨z0, z1, zl, zf⟩ := Z2.out.cells2
      go_wp2_with fail
      with_reducible refine (H1.out _ _ _ X2.out).mono ?_
      rintro e w3 ⟨a3, c3, rfl, ho, q⟩
      clear z0 z1 zl zf
      have Q3 := Lib.hid (bthen Q2.out q)
      have X3 := Lib.hid (X2.out.below q)
      have Z3 := Lib.hid (Z2.out.below q Z2.out.lt)
      have C3 := Lib.hid (ho.bs)
      clear q ho
      obtain ⟨z0, z1, zl, zf⟩ := Z3.out.cells2
      go_wp2_with fail
      with_reducible refine (H2.out _ _ _ X3.out).mono ?_
      rintro e w4 ⟨a4, c4, rfl, ho, q⟩
      clear z0 z1 zl zf
      have Q4 := Lib.hid (bthen Q3.out q)
      have X4 := Lib.hid (X3.out.below q)
      have Z4 := Lib.hid (Z3.out.below q Z3.out.lt)
      have C4 := Lib.hid (C3.out.below q)
      have D4 := Lib.hid (ho.bs)
      clear q ho
      obtain ⟨z0, z1, zl, zf⟩ := Z4.out.cells2
      go_wp2_with fail
      go_region_held3 (fun w' => w'.cell? ⟨A, 0, none⟩ = some (.slice a l.length c) ∧ w'.cell? ⟨A, 1, none⟩ = some (.int .i64 (x.toNat : Int))) (first | exact ⟨z0, z1⟩ | exact ⟨k0, k1⟩ | exact ⟨j0, j1⟩ | assumption)
        (first
         | (go_at_call 12; (with_reducible refine (HB.out _ _ _ _ _ C4.out.drew D4.out.drew).mono ?_); rintro e w' ⟨rfl, rfl⟩)
         | (go_at_call 13; (with_reducible refine (H3.out _ _ _ X4.out.drew).mono ?_); rintro e w5 ⟨rfl, q⟩; have Q5 := Lib.hid (bthen Q4.out.drew q); have X5 := Lib.hid (X4.out.drew.below q); have Z5 := Lib.hid ((Z4.out.drewN 1).below q (Z4.out.drewN 1).lt); have C5 := Lib.hid (C4.out.drew.below q); have D5 := Lib.hid (D4.out.drew.below q); clear q; obtain ⟨k0, k1, kl, kf⟩ := Z5.out.cells2)
         | (go_at_call 14; (with_reducible refine (H4.out _ _ _ X5.out).mono ?_); rintro e w6 ⟨rfl, q⟩; have Q6 := Lib.hid (bthen Q5.out q); have X6 := Lib.hid (X5.out.below q); have Z6 := Lib.hid (Z5.out.below q Z5.out.lt); have C6 := Lib.hid (C5.out.below q); have D6 := Lib.hid (D5.out.below q); clear q; obtain ⟨j0, j1, jl, jf⟩ := Z6.out.cells2))
      clear z0 z1 zl zf k0 k1 kl kf j0 j1 jl jf
      obtain ⟨z0, z1, zl, zf⟩ := Z6.out.cells2
      go_wp2_with fail
      with_reducible refine (H5.out _ _ _ C6.out).mono ?_
      rintro e w7 ⟨a7, c7, rfl, ho, q⟩
      clear z0 z1 zl zf
      have Q7 := Lib.hid (bthen Q6.out q)
      have X7 := Lib.hid (X6.out.below q)
      have Z7 := Lib.hid (Z6.out.below q Z6.out.lt)
      have C7 := Lib.hid (C6.out.below q)
      have D7 := Lib.hid (D6.out.below q)
      have Y7 := Lib.hid (ho.bs)
      clear q ho
      obtain ⟨z0, z1, zl, zf⟩ := Z7.out.cells2
      go_wp2_with fail
      clear z0 z1 zl zf
      have Q8 := Lib.hid (bal Q7.out (.cells #[.slice a7 l.length c7, .int .i64 (x.toNat : Int)] 24))
      have X8 := Lib.hid (X7.out.alloc (.cells #[.slice a7 l.length c7, .int .i64 (x.toNat : Int)] 24))
      have Z8 := Lib.hid (Z7.out.alloc (.cells #[.slice a7 l.length c7, .int .i64 (x.toNat : Int)] 24))
      have C8 := Lib.hid (C7.out.alloc (.cells #[.slice a7 l.length c7, .int .i64 (x.toNat : Int)] 24))
      have D8 := Lib.hid (D7.out.alloc (.cells #[.slice a7 l.length c7, .int .i64 (x.toNat : Int)] 24))
      have Y8 := Lib.hid (Y7.out.alloc (.cells #[.slice a7 l.length c7, .int .i64 (x.toNat : Int)] 24))
      generalize w7.alloc (.cells #[.slice a7 l.length c7, .int .i64 (x.toNat : Int)] 24) = w8 at *
      obtain ⟨z0, z1, zl, zf⟩ := Z8.out.cells2
      with_reducible refine (H6.out _ _ _ _ _ Y8.out X8.out).mono ?_
      rintro e w9 ⟨rfl, q⟩
      clear z0 z1 zl zf
      have Q9 := Lib.hid (bthen Q8.out q)
      have X9 := Lib.hid (X8.out.below q)
      have Z9 := Lib.hid (Z8.out.below q Z8.out.lt)
      have C9 := Lib.hid (C8.out.below q)
      have D9 := Lib.hid (D8.out.below q)
      have Y9 := Lib.hid (Y8.out.below q)
      clear q 
      obtain ⟨z0, z1, zl, zf⟩ := Z9.out.cells2
      go_wp2_with fail
      go_ret
      exact ⟨rfl, Q9.out⟩
  · have hz2 : (2000 : Int) < l.length := by omega
    go_enter Try.func3, Try.ntmps3
    go_wp2_with fail
    generalize w.alloc (.cells #[.slice a l.length c, .int .i64 u] 24) = w1 at *
    clear hA
    obtain ⟨z0, z1, zl, zf⟩ := Z1.out.cells2
    with_reducible refine (HA.out _).mono ?_
    rintro e w2 ⟨rfl, q⟩
    clear z0 z1 zl zf
    have Q2 := Lib.hid (bthen Q1.out q)
    have X2 := Lib.hid (X1.out.below q)
    have Z2 := Lib.hid (Z1.out.below q Z1.out.lt)
    clear q 
    obtain ⟨z0, z1, zl, zf⟩ := Z2.out.cells2
    go_wp2_with fail
    with_reducible refine (HA.out _).mono ?_
    rintro e w3 ⟨rfl, q⟩
    clear z0 z1 zl zf
    have Q3 := Lib.hid (bthen Q2.out q)
    have X3 := Lib.hid (X2.out.below q)
    have Z3 := Lib.hid (Z2.out.below q Z2.out.lt)
    clear q 
    obtain ⟨z0, z1, zl, zf⟩ := Z3.out.cells2
    go_wp2_with fail
    go_ret
    exact ⟨rfl, Q3.out⟩
end Go.Proofs.Ytfflfahhfhnkdaa.bitstringEncodes
