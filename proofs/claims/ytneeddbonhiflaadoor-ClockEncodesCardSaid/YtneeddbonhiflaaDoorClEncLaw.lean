/-
  The walk of ClockEncodes over what its callees are asked to keep.
-/
import Derived.Test.YtneeddbonhiflaaDoorClBack
import Derived.Deep.RegionHeld3
namespace Go.Proofs.YtneeddbonhiflaaDoor
open Go.RowKit

set_option maxRecDepth 100000 in
set_option maxHeartbeats 16000000 in
theorem encs_all (y m d h i s : Int) (LU LG : List UInt8) (nu ng : Nat) (w : World)
    (H0 : Hid (∀ v : World, Below w.heap.size w v → Calls Tryd.prog 8 #[] v fun e w' => e = .returned (.bool true) ∧ Below v.heap.size v w'))
    (H1 : Hid (∀ v : World, Below w.heap.size w v → Calls Tryd.prog 9 #[.agg #[.int .i64 y, .int .i64 m, .int .i64 d, .int .i64 h, .int .i64 i, .int .i64 s]] v fun e w' => ∃ a c, e = .returned (.tuple #[.slice a nu c, .int .i64 0]) ∧ Bs w' a nu c LU ∧ Below v.heap.size v w'))
    (H2 : Hid (∀ v : World, Calls Tryd.prog 10 #[.agg #[.int .i64 y, .int .i64 m, .int .i64 d, .int .i64 h, .int .i64 i, .int .i64 s]] v fun e w' => ∃ a c, e = .returned (.tuple #[.slice a nu c, .int .i64 0]) ∧ Bs w' a nu c LU ∧ Below v.heap.size v w'))
    (H3 : Hid (∀ v : World, Below w.heap.size w v → Calls Tryd.prog 11 #[.agg #[.int .i64 y, .int .i64 m, .int .i64 d, .int .i64 h, .int .i64 i, .int .i64 s]] v fun e w' => ∃ a c, e = .returned (.tuple #[.slice a ng c, .int .i64 0]) ∧ Bs w' a ng c LG ∧ Below v.heap.size v w'))
    (H4 : Hid (∀ v : World, Calls Tryd.prog 12 #[.agg #[.int .i64 y, .int .i64 m, .int .i64 d, .int .i64 h, .int .i64 i, .int .i64 s]] v fun e w' => ∃ a c, e = .returned (.tuple #[.slice a ng c, .int .i64 0]) ∧ Bs w' a ng c LG ∧ Below v.heap.size v w'))
    (H5 : Hid (∀ v : World, Below w.heap.size w v → Calls Tryd.prog 14 #[.agg #[.int .i64 y, .int .i64 m, .int .i64 d, .int .i64 h, .int .i64 i, .int .i64 s]] v fun e w' => e = .returned (.bool true) ∧ Below v.heap.size v w'))
    (H6 : Hid (∀ v : World, Calls Tryd.prog 15 #[.agg #[.int .i64 y, .int .i64 m, .int .i64 d, .int .i64 h, .int .i64 i, .int .i64 s]] v fun e w' => e = .returned (.bool true) ∧ Below v.heap.size v w'))
    (H7 : Hid (∀ (v : World) (a : Option Addr) (c : Nat), Bs v a nu c LU → Below w.heap.size w v → Calls Tryd.prog 16 #[.slice a nu c] v fun e w' => e = .returned (.tuple #[.agg #[.int .i64 y, .int .i64 m, .int .i64 d, .int .i64 h, .int .i64 i, .int .i64 s], .int .i64 0]) ∧ Below v.heap.size v w'))
    (H8 : Hid (∀ (v : World) (a : Option Addr) (c : Nat), Bs v a ng c LG → Below w.heap.size w v → Calls Tryd.prog 17 #[.slice a ng c] v fun e w' => e = .returned (.tuple #[.agg #[.int .i64 y, .int .i64 m, .int .i64 d, .int .i64 h, .int .i64 i, .int .i64 s], .int .i64 0]) ∧ Below v.heap.size v w')) :
    Calls Tryd.prog 3 #[.agg #[.int .i64 y, .int .i64 m, .int .i64 d, .int .i64 h, .int .i64 i, .int .i64 s]] w fun e w' => e = .returned (.bool true) ∧ Below w.heap.size w w' := by
  have HBU := Lib.hid (fun v a b c d (hx : Bs v a nu c LU) (hy : Bs v b nu d LU) => bytes_any hx hy)
  have HBG := Lib.hid (fun v a b c d (hx : Bs v a ng c LG) (hy : Bs v b ng d LG) => bytes_any hx hy)
  rw [eqB_self] at HBU HBG
  obtain ⟨A, hA⟩ : ∃ A, w.heap.size = A := ⟨_, rfl⟩
  have Z1 := Lib.hid (Blk.new w 23 #[.int .i64 y, .int .i64 m, .int .i64 d, .int .i64 h, .int .i64 i, .int .i64 s])
  have Q1 := Lib.hid (bal (Below.refl w.heap.size w) (.cells #[.int .i64 y, .int .i64 m, .int .i64 d, .int .i64 h, .int .i64 i, .int .i64 s] 23))
  rw [hA] at Z1
  go_enter Tryd.func3, Tryd.ntmps3
  go_wp2_with fail
  generalize w.alloc (.cells #[.int .i64 y, .int .i64 m, .int .i64 d, .int .i64 h, .int .i64 i, .int .i64 s] 23) = w1 at *
  clear hA
  with_reducible refine (H0.out _ Q1.out).mono ?_
  rintro e w2 ⟨rfl, q⟩
  have Q2 := Lib.hid (bthen Q1.out q)
  have Z2 := Lib.hid (Z1.out.below q Z1.out.lt)
  clear q Q1 Z1 
  obtain ⟨z0, z1, z2, z3, z4, z5⟩ := Z2.out.cells6
  go_wp2_with fail
  with_reducible refine (H1.out _ Q2.out).mono ?_
  rintro e w3 ⟨aP, cP, rfl, b, q⟩
  have Q3 := Lib.hid (bthen Q2.out q)
  have Z3 := Lib.hid (Z2.out.below q Z2.out.lt)
  have P3 := Lib.hid b
  clear q b Q2 Z2 
  clear z0 z1 z2 z3 z4 z5
  obtain ⟨z0, z1, z2, z3, z4, z5⟩ := Z3.out.cells6
  go_wp2_with fail
  with_reducible refine (H2.out _).mono ?_
  rintro e w4 ⟨aR, cR, rfl, b, q⟩
  have Q4 := Lib.hid (bthen Q3.out q)
  have Z4 := Lib.hid (Z3.out.below q Z3.out.lt)
  have P4 := Lib.hid (P3.out.below q)
  have R4 := Lib.hid b
  clear q b Q3 Z3 P3
  clear z0 z1 z2 z3 z4 z5
  obtain ⟨z0, z1, z2, z3, z4, z5⟩ := Z4.out.cells6
  go_wp2_with fail
  with_reducible refine (H3.out _ Q4.out).mono ?_
  rintro e w5 ⟨aS, cS, rfl, b, q⟩
  have Q5 := Lib.hid (bthen Q4.out q)
  have Z5 := Lib.hid (Z4.out.below q Z4.out.lt)
  have P5 := Lib.hid (P4.out.below q)
  have R5 := Lib.hid (R4.out.below q)
  have S5 := Lib.hid b
  clear q b Q4 Z4 P4 R4
  clear z0 z1 z2 z3 z4 z5
  obtain ⟨z0, z1, z2, z3, z4, z5⟩ := Z5.out.cells6
  go_wp2_with fail
  with_reducible refine (H4.out _).mono ?_
  rintro e w6 ⟨aU, cU, rfl, b, q⟩
  have Q6 := Lib.hid (bthen Q5.out q)
  have Z6 := Lib.hid (Z5.out.below q Z5.out.lt)
  have P6 := Lib.hid (P5.out.below q)
  have R6 := Lib.hid (R5.out.below q)
  have S6 := Lib.hid (S5.out.below q)
  have U6 := Lib.hid b
  clear q b Q5 Z5 P5 R5 S5
  clear z0 z1 z2 z3 z4 z5
  obtain ⟨z0, z1, z2, z3, z4, z5⟩ := Z6.out.cells6
  go_wp2_with fail
  go_region_held3 (fun w' => w'.cell? ⟨A, 0, none⟩ = some (.int .i64 y) ∧ w'.cell? ⟨A, 1, none⟩ = some (.int .i64 m) ∧ w'.cell? ⟨A, 2, none⟩ = some (.int .i64 d) ∧ w'.cell? ⟨A, 3, none⟩ = some (.int .i64 h) ∧ w'.cell? ⟨A, 4, none⟩ = some (.int .i64 i) ∧ w'.cell? ⟨A, 5, none⟩ = some (.int .i64 s)) (first | exact ⟨z0, z1, z2, z3, z4, z5⟩ | exact ⟨k0, k1, k2, k3, k4, k5⟩ | exact ⟨j0, j1, j2, j3, j4, j5⟩ | assumption)
    (first
     | (go_at_call 13; (with_reducible refine (HBU.out _ _ _ _ _ P6.out.drew R6.out.drew).mono ?_); rintro e w' ⟨rfl, rfl⟩)
     | (go_at_call 13; (with_reducible refine (HBG.out _ _ _ _ _ S6.out.drew U6.out.drew).mono ?_); rintro e w' ⟨rfl, rfl⟩)
     | (go_at_call 14; (with_reducible refine (H5.out _ Q6.out.drew).mono ?_); rintro e w7 ⟨rfl, q⟩; have Q7 := Lib.hid (bthen Q6.out.drew q); have Z7 := Lib.hid ((Z6.out.drewN 1).below q (Z6.out.drewN 1).lt); have P7 := Lib.hid (P6.out.drew.below q); have S7 := Lib.hid (S6.out.drew.below q); clear q; obtain ⟨k0, k1, k2, k3, k4, k5⟩ := Z7.out.cells6)
     | (go_at_call 15; (with_reducible refine (H6.out _).mono ?_); rintro e w8 ⟨rfl, q⟩; have Q8 := Lib.hid (bthen Q7.out q); have Z8 := Lib.hid (Z7.out.below q Z7.out.lt); have P8 := Lib.hid (P7.out.below q); have S8 := Lib.hid (S7.out.below q); clear q; obtain ⟨j0, j1, j2, j3, j4, j5⟩ := Z8.out.cells6))
  clear z0 z1 z2 z3 z4 z5 k0 k1 k2 k3 k4 k5 j0 j1 j2 j3 j4 j5
  obtain ⟨z0, z1, z2, z3, z4, z5⟩ := Z8.out.cells6
  go_wp2_with fail
  with_reducible refine (H7.out _ _ _ P8.out Q8.out).mono ?_
  rintro e v9 ⟨rfl, q⟩
  clear z0 z1 z2 z3 z4 z5
  have QA := Lib.hid (bthen Q8.out q)
  have ZA := Lib.hid (Z8.out.below q Z8.out.lt)
  have SA := Lib.hid (S8.out.below q)
  clear q
  obtain ⟨M1, hM1⟩ : ∃ M, v9.heap.size = M := ⟨_, rfl⟩
  have lA := ZA.out.lt
  rw [hM1] at lA
  have Q9 := Lib.hid (bal QA.out (.cells #[.int .i64 y, .int .i64 m, .int .i64 d, .int .i64 h, .int .i64 i, .int .i64 s] 23))
  have Z9 := Lib.hid (ZA.out.alloc (.cells #[.int .i64 y, .int .i64 m, .int .i64 d, .int .i64 h, .int .i64 i, .int .i64 s] 23))
  have S9 := Lib.hid (SA.out.alloc (.cells #[.int .i64 y, .int .i64 m, .int .i64 d, .int .i64 h, .int .i64 i, .int .i64 s] 23))
  have X9 := Lib.hid (Blk.new v9 23 #[.int .i64 y, .int .i64 m, .int .i64 d, .int .i64 h, .int .i64 i, .int .i64 s])
  rw [hM1] at X9
  go_wp2_with fail
  generalize v9.alloc (.cells #[.int .i64 y, .int .i64 m, .int .i64 d, .int .i64 h, .int .i64 i, .int .i64 s] 23) = w9 at *
  clear hM1
  with_reducible refine (H8.out _ _ _ S9.out Q9.out).mono ?_
  rintro e v10 ⟨rfl, q⟩
  have QB := Lib.hid (bthen Q9.out q)
  have ZB := Lib.hid (Z9.out.below q Z9.out.lt)
  have XB := Lib.hid (X9.out.below q X9.out.lt)
  clear q
  obtain ⟨M2, hM2⟩ : ∃ M, v10.heap.size = M := ⟨_, rfl⟩
  have lB := ZB.out.lt
  have lX := XB.out.lt
  rw [hM2] at lB lX
  have Q10 := Lib.hid (bal QB.out (.cells #[.int .i64 y, .int .i64 m, .int .i64 d, .int .i64 h, .int .i64 i, .int .i64 s] 23))
  obtain ⟨z0, z1, z2, z3, z4, z5⟩ := ZB.out.cells6
  obtain ⟨u0, u1, u2, u3, u4, u5⟩ := XB.out.cells6
  go_wp2_with fail
  go_ret
  exact ⟨rfl, Q10.out⟩

set_option maxRecDepth 100000 in
set_option maxHeartbeats 16000000 in
theorem encs_one (y m d h i s : Int) (LU LG : List UInt8) (nu ng : Nat) (w : World)
    (H0 : Hid (∀ v : World, Below w.heap.size w v → Calls Tryd.prog 8 #[] v fun e w' => e = .returned (.bool true) ∧ Below v.heap.size v w'))
    (H1 : Hid (∀ v : World, Below w.heap.size w v → Calls Tryd.prog 9 #[.agg #[.int .i64 y, .int .i64 m, .int .i64 d, .int .i64 h, .int .i64 i, .int .i64 s]] v fun e w' => ∃ a c, e = .returned (.tuple #[.slice a nu c, .int .i64 9]) ∧ Bs w' a nu c LU ∧ Below v.heap.size v w'))
    (H2 : Hid (∀ v : World, Calls Tryd.prog 10 #[.agg #[.int .i64 y, .int .i64 m, .int .i64 d, .int .i64 h, .int .i64 i, .int .i64 s]] v fun e w' => ∃ a c, e = .returned (.tuple #[.slice a nu c, .int .i64 9]) ∧ Bs w' a nu c LU ∧ Below v.heap.size v w'))
    (H3 : Hid (∀ v : World, Below w.heap.size w v → Calls Tryd.prog 11 #[.agg #[.int .i64 y, .int .i64 m, .int .i64 d, .int .i64 h, .int .i64 i, .int .i64 s]] v fun e w' => ∃ a c, e = .returned (.tuple #[.slice a ng c, .int .i64 0]) ∧ Bs w' a ng c LG ∧ Below v.heap.size v w'))
    (H4 : Hid (∀ v : World, Calls Tryd.prog 12 #[.agg #[.int .i64 y, .int .i64 m, .int .i64 d, .int .i64 h, .int .i64 i, .int .i64 s]] v fun e w' => ∃ a c, e = .returned (.tuple #[.slice a ng c, .int .i64 0]) ∧ Bs w' a ng c LG ∧ Below v.heap.size v w'))
    (H5 : Hid (∀ v : World, Below w.heap.size w v → Calls Tryd.prog 14 #[.agg #[.int .i64 y, .int .i64 m, .int .i64 d, .int .i64 h, .int .i64 i, .int .i64 s]] v fun e w' => e = .returned (.bool true) ∧ Below v.heap.size v w'))
    (H6 : Hid (∀ v : World, Calls Tryd.prog 15 #[.agg #[.int .i64 y, .int .i64 m, .int .i64 d, .int .i64 h, .int .i64 i, .int .i64 s]] v fun e w' => e = .returned (.bool true) ∧ Below v.heap.size v w'))
    (H7 : Hid (∀ (v : World) (a : Option Addr) (c : Nat), Bs v a nu c LU → Below w.heap.size w v → Calls Tryd.prog 16 #[.slice a nu c] v fun e w' => e = .returned (.tuple #[.agg #[.int .i64 0, .int .i64 0, .int .i64 0, .int .i64 0, .int .i64 0, .int .i64 0], .int .i64 6]) ∧ Below v.heap.size v w'))
    (H8 : Hid (∀ (v : World) (a : Option Addr) (c : Nat), Bs v a ng c LG → Below w.heap.size w v → Calls Tryd.prog 17 #[.slice a ng c] v fun e w' => e = .returned (.tuple #[.agg #[.int .i64 y, .int .i64 m, .int .i64 d, .int .i64 h, .int .i64 i, .int .i64 s], .int .i64 0]) ∧ Below v.heap.size v w')) :
    Calls Tryd.prog 3 #[.agg #[.int .i64 y, .int .i64 m, .int .i64 d, .int .i64 h, .int .i64 i, .int .i64 s]] w fun e w' => e = .returned (.bool true) ∧ Below w.heap.size w w' := by
  have HBU := Lib.hid (fun v a b c d (hx : Bs v a nu c LU) (hy : Bs v b nu d LU) => bytes_any hx hy)
  have HBG := Lib.hid (fun v a b c d (hx : Bs v a ng c LG) (hy : Bs v b ng d LG) => bytes_any hx hy)
  rw [eqB_self] at HBU HBG
  obtain ⟨A, hA⟩ : ∃ A, w.heap.size = A := ⟨_, rfl⟩
  have Z1 := Lib.hid (Blk.new w 23 #[.int .i64 y, .int .i64 m, .int .i64 d, .int .i64 h, .int .i64 i, .int .i64 s])
  have Q1 := Lib.hid (bal (Below.refl w.heap.size w) (.cells #[.int .i64 y, .int .i64 m, .int .i64 d, .int .i64 h, .int .i64 i, .int .i64 s] 23))
  rw [hA] at Z1
  go_enter Tryd.func3, Tryd.ntmps3
  go_wp2_with fail
  generalize w.alloc (.cells #[.int .i64 y, .int .i64 m, .int .i64 d, .int .i64 h, .int .i64 i, .int .i64 s] 23) = w1 at *
  clear hA
  with_reducible refine (H0.out _ Q1.out).mono ?_
  rintro e w2 ⟨rfl, q⟩
  have Q2 := Lib.hid (bthen Q1.out q)
  have Z2 := Lib.hid (Z1.out.below q Z1.out.lt)
  clear q Q1 Z1 
  obtain ⟨z0, z1, z2, z3, z4, z5⟩ := Z2.out.cells6
  go_wp2_with fail
  with_reducible refine (H1.out _ Q2.out).mono ?_
  rintro e w3 ⟨aP, cP, rfl, b, q⟩
  have Q3 := Lib.hid (bthen Q2.out q)
  have Z3 := Lib.hid (Z2.out.below q Z2.out.lt)
  have P3 := Lib.hid b
  clear q b Q2 Z2 
  clear z0 z1 z2 z3 z4 z5
  obtain ⟨z0, z1, z2, z3, z4, z5⟩ := Z3.out.cells6
  go_wp2_with fail
  with_reducible refine (H2.out _).mono ?_
  rintro e w4 ⟨aR, cR, rfl, b, q⟩
  have Q4 := Lib.hid (bthen Q3.out q)
  have Z4 := Lib.hid (Z3.out.below q Z3.out.lt)
  have P4 := Lib.hid (P3.out.below q)
  have R4 := Lib.hid b
  clear q b Q3 Z3 P3
  clear z0 z1 z2 z3 z4 z5
  obtain ⟨z0, z1, z2, z3, z4, z5⟩ := Z4.out.cells6
  go_wp2_with fail
  with_reducible refine (H3.out _ Q4.out).mono ?_
  rintro e w5 ⟨aS, cS, rfl, b, q⟩
  have Q5 := Lib.hid (bthen Q4.out q)
  have Z5 := Lib.hid (Z4.out.below q Z4.out.lt)
  have P5 := Lib.hid (P4.out.below q)
  have R5 := Lib.hid (R4.out.below q)
  have S5 := Lib.hid b
  clear q b Q4 Z4 P4 R4
  clear z0 z1 z2 z3 z4 z5
  obtain ⟨z0, z1, z2, z3, z4, z5⟩ := Z5.out.cells6
  go_wp2_with fail
  with_reducible refine (H4.out _).mono ?_
  rintro e w6 ⟨aU, cU, rfl, b, q⟩
  have Q6 := Lib.hid (bthen Q5.out q)
  have Z6 := Lib.hid (Z5.out.below q Z5.out.lt)
  have P6 := Lib.hid (P5.out.below q)
  have R6 := Lib.hid (R5.out.below q)
  have S6 := Lib.hid (S5.out.below q)
  have U6 := Lib.hid b
  clear q b Q5 Z5 P5 R5 S5
  clear z0 z1 z2 z3 z4 z5
  obtain ⟨z0, z1, z2, z3, z4, z5⟩ := Z6.out.cells6
  go_wp2_with fail
  go_region_held3 (fun w' => w'.cell? ⟨A, 0, none⟩ = some (.int .i64 y) ∧ w'.cell? ⟨A, 1, none⟩ = some (.int .i64 m) ∧ w'.cell? ⟨A, 2, none⟩ = some (.int .i64 d) ∧ w'.cell? ⟨A, 3, none⟩ = some (.int .i64 h) ∧ w'.cell? ⟨A, 4, none⟩ = some (.int .i64 i) ∧ w'.cell? ⟨A, 5, none⟩ = some (.int .i64 s)) (first | exact ⟨z0, z1, z2, z3, z4, z5⟩ | exact ⟨k0, k1, k2, k3, k4, k5⟩ | exact ⟨j0, j1, j2, j3, j4, j5⟩ | assumption)
    (first
     | (go_at_call 13; (with_reducible refine (HBU.out _ _ _ _ _ P6.out.drew R6.out.drew).mono ?_); rintro e w' ⟨rfl, rfl⟩)
     | (go_at_call 13; (with_reducible refine (HBG.out _ _ _ _ _ S6.out.drew U6.out.drew).mono ?_); rintro e w' ⟨rfl, rfl⟩)
     | (go_at_call 14; (with_reducible refine (H5.out _ Q6.out.drew).mono ?_); rintro e w7 ⟨rfl, q⟩; have Q7 := Lib.hid (bthen Q6.out.drew q); have Z7 := Lib.hid ((Z6.out.drewN 1).below q (Z6.out.drewN 1).lt); have P7 := Lib.hid (P6.out.drew.below q); have S7 := Lib.hid (S6.out.drew.below q); clear q; obtain ⟨k0, k1, k2, k3, k4, k5⟩ := Z7.out.cells6)
     | (go_at_call 15; (with_reducible refine (H6.out _).mono ?_); rintro e w8 ⟨rfl, q⟩; have Q8 := Lib.hid (bthen Q7.out q); have Z8 := Lib.hid (Z7.out.below q Z7.out.lt); have P8 := Lib.hid (P7.out.below q); have S8 := Lib.hid (S7.out.below q); clear q; obtain ⟨j0, j1, j2, j3, j4, j5⟩ := Z8.out.cells6))
  clear z0 z1 z2 z3 z4 z5 k0 k1 k2 k3 k4 k5 j0 j1 j2 j3 j4 j5
  obtain ⟨z0, z1, z2, z3, z4, z5⟩ := Z8.out.cells6
  go_wp2_with fail
  with_reducible refine (H7.out _ _ _ P8.out Q8.out).mono ?_
  rintro e v9 ⟨rfl, q⟩
  clear z0 z1 z2 z3 z4 z5
  have QA := Lib.hid (bthen Q8.out q)
  have ZA := Lib.hid (Z8.out.below q Z8.out.lt)
  have SA := Lib.hid (S8.out.below q)
  clear q
  obtain ⟨M1, hM1⟩ : ∃ M, v9.heap.size = M := ⟨_, rfl⟩
  have lA := ZA.out.lt
  rw [hM1] at lA
  have Q9 := Lib.hid (bal QA.out (.cells #[.int .i64 0, .int .i64 0, .int .i64 0, .int .i64 0, .int .i64 0, .int .i64 0] 23))
  have Z9 := Lib.hid (ZA.out.alloc (.cells #[.int .i64 0, .int .i64 0, .int .i64 0, .int .i64 0, .int .i64 0, .int .i64 0] 23))
  have S9 := Lib.hid (SA.out.alloc (.cells #[.int .i64 0, .int .i64 0, .int .i64 0, .int .i64 0, .int .i64 0, .int .i64 0] 23))
  have X9 := Lib.hid (Blk.new v9 23 #[.int .i64 0, .int .i64 0, .int .i64 0, .int .i64 0, .int .i64 0, .int .i64 0])
  rw [hM1] at X9
  go_wp2_with fail
  generalize v9.alloc (.cells #[.int .i64 0, .int .i64 0, .int .i64 0, .int .i64 0, .int .i64 0, .int .i64 0] 23) = w9 at *
  clear hM1
  with_reducible refine (H8.out _ _ _ S9.out Q9.out).mono ?_
  rintro e v10 ⟨rfl, q⟩
  have QB := Lib.hid (bthen Q9.out q)
  have ZB := Lib.hid (Z9.out.below q Z9.out.lt)
  have XB := Lib.hid (X9.out.below q X9.out.lt)
  clear q
  obtain ⟨M2, hM2⟩ : ∃ M, v10.heap.size = M := ⟨_, rfl⟩
  have lB := ZB.out.lt
  have lX := XB.out.lt
  rw [hM2] at lB lX
  have Q10 := Lib.hid (bal QB.out (.cells #[.int .i64 y, .int .i64 m, .int .i64 d, .int .i64 h, .int .i64 i, .int .i64 s] 23))
  obtain ⟨z0, z1, z2, z3, z4, z5⟩ := ZB.out.cells6
  obtain ⟨u0, u1, u2, u3, u4, u5⟩ := XB.out.cells6
  go_wp2_with fail
  go_ret
  exact ⟨rfl, Q10.out⟩

set_option maxRecDepth 100000 in
set_option maxHeartbeats 16000000 in
theorem encs_no (y m d h i s : Int) (LU LG : List UInt8) (nu ng : Nat) (w : World)
    (H0 : Hid (∀ v : World, Below w.heap.size w v → Calls Tryd.prog 8 #[] v fun e w' => e = .returned (.bool true) ∧ Below v.heap.size v w'))
    (H1 : Hid (∀ v : World, Below w.heap.size w v → Calls Tryd.prog 9 #[.agg #[.int .i64 y, .int .i64 m, .int .i64 d, .int .i64 h, .int .i64 i, .int .i64 s]] v fun e w' => ∃ a c, e = .returned (.tuple #[.slice a nu c, .int .i64 8]) ∧ Bs w' a nu c LU ∧ Below v.heap.size v w'))
    (H2 : Hid (∀ v : World, Calls Tryd.prog 10 #[.agg #[.int .i64 y, .int .i64 m, .int .i64 d, .int .i64 h, .int .i64 i, .int .i64 s]] v fun e w' => ∃ a c, e = .returned (.tuple #[.slice a nu c, .int .i64 8]) ∧ Bs w' a nu c LU ∧ Below v.heap.size v w'))
    (H3 : Hid (∀ v : World, Below w.heap.size w v → Calls Tryd.prog 11 #[.agg #[.int .i64 y, .int .i64 m, .int .i64 d, .int .i64 h, .int .i64 i, .int .i64 s]] v fun e w' => ∃ a c, e = .returned (.tuple #[.slice a ng c, .int .i64 8]) ∧ Bs w' a ng c LG ∧ Below v.heap.size v w'))
    (H4 : Hid (∀ v : World, Calls Tryd.prog 12 #[.agg #[.int .i64 y, .int .i64 m, .int .i64 d, .int .i64 h, .int .i64 i, .int .i64 s]] v fun e w' => ∃ a c, e = .returned (.tuple #[.slice a ng c, .int .i64 8]) ∧ Bs w' a ng c LG ∧ Below v.heap.size v w'))
    (H5 : Hid (∀ v : World, Below w.heap.size w v → Calls Tryd.prog 14 #[.agg #[.int .i64 y, .int .i64 m, .int .i64 d, .int .i64 h, .int .i64 i, .int .i64 s]] v fun e w' => e = .returned (.bool false) ∧ Below v.heap.size v w'))
    (H6 : Hid (∀ v : World, Calls Tryd.prog 15 #[.agg #[.int .i64 y, .int .i64 m, .int .i64 d, .int .i64 h, .int .i64 i, .int .i64 s]] v fun e w' => e = .returned (.bool false) ∧ Below v.heap.size v w'))
    (H7 : Hid (∀ (v : World) (a : Option Addr) (c : Nat), Bs v a nu c LU → Below w.heap.size w v → Calls Tryd.prog 16 #[.slice a nu c] v fun e w' => e = .returned (.tuple #[.agg #[.int .i64 0, .int .i64 0, .int .i64 0, .int .i64 0, .int .i64 0, .int .i64 0], .int .i64 6]) ∧ Below v.heap.size v w'))
    (H8 : Hid (∀ (v : World) (a : Option Addr) (c : Nat), Bs v a ng c LG → Below w.heap.size w v → Calls Tryd.prog 17 #[.slice a ng c] v fun e w' => e = .returned (.tuple #[.agg #[.int .i64 0, .int .i64 0, .int .i64 0, .int .i64 0, .int .i64 0, .int .i64 0], .int .i64 6]) ∧ Below v.heap.size v w')) :
    Calls Tryd.prog 3 #[.agg #[.int .i64 y, .int .i64 m, .int .i64 d, .int .i64 h, .int .i64 i, .int .i64 s]] w fun e w' => e = .returned (.bool true) ∧ Below w.heap.size w w' := by
  have HBU := Lib.hid (fun v a b c d (hx : Bs v a nu c LU) (hy : Bs v b nu d LU) => bytes_any hx hy)
  have HBG := Lib.hid (fun v a b c d (hx : Bs v a ng c LG) (hy : Bs v b ng d LG) => bytes_any hx hy)
  rw [eqB_self] at HBU HBG
  obtain ⟨A, hA⟩ : ∃ A, w.heap.size = A := ⟨_, rfl⟩
  have Z1 := Lib.hid (Blk.new w 23 #[.int .i64 y, .int .i64 m, .int .i64 d, .int .i64 h, .int .i64 i, .int .i64 s])
  have Q1 := Lib.hid (bal (Below.refl w.heap.size w) (.cells #[.int .i64 y, .int .i64 m, .int .i64 d, .int .i64 h, .int .i64 i, .int .i64 s] 23))
  rw [hA] at Z1
  go_enter Tryd.func3, Tryd.ntmps3
  go_wp2_with fail
  generalize w.alloc (.cells #[.int .i64 y, .int .i64 m, .int .i64 d, .int .i64 h, .int .i64 i, .int .i64 s] 23) = w1 at *
  clear hA
  with_reducible refine (H0.out _ Q1.out).mono ?_
  rintro e w2 ⟨rfl, q⟩
  have Q2 := Lib.hid (bthen Q1.out q)
  have Z2 := Lib.hid (Z1.out.below q Z1.out.lt)
  clear q Q1 Z1 
  obtain ⟨z0, z1, z2, z3, z4, z5⟩ := Z2.out.cells6
  go_wp2_with fail
  with_reducible refine (H1.out _ Q2.out).mono ?_
  rintro e w3 ⟨aP, cP, rfl, b, q⟩
  have Q3 := Lib.hid (bthen Q2.out q)
  have Z3 := Lib.hid (Z2.out.below q Z2.out.lt)
  have P3 := Lib.hid b
  clear q b Q2 Z2 
  clear z0 z1 z2 z3 z4 z5
  obtain ⟨z0, z1, z2, z3, z4, z5⟩ := Z3.out.cells6
  go_wp2_with fail
  with_reducible refine (H2.out _).mono ?_
  rintro e w4 ⟨aR, cR, rfl, b, q⟩
  have Q4 := Lib.hid (bthen Q3.out q)
  have Z4 := Lib.hid (Z3.out.below q Z3.out.lt)
  have P4 := Lib.hid (P3.out.below q)
  have R4 := Lib.hid b
  clear q b Q3 Z3 P3
  clear z0 z1 z2 z3 z4 z5
  obtain ⟨z0, z1, z2, z3, z4, z5⟩ := Z4.out.cells6
  go_wp2_with fail
  with_reducible refine (H3.out _ Q4.out).mono ?_
  rintro e w5 ⟨aS, cS, rfl, b, q⟩
  have Q5 := Lib.hid (bthen Q4.out q)
  have Z5 := Lib.hid (Z4.out.below q Z4.out.lt)
  have P5 := Lib.hid (P4.out.below q)
  have R5 := Lib.hid (R4.out.below q)
  have S5 := Lib.hid b
  clear q b Q4 Z4 P4 R4
  clear z0 z1 z2 z3 z4 z5
  obtain ⟨z0, z1, z2, z3, z4, z5⟩ := Z5.out.cells6
  go_wp2_with fail
  with_reducible refine (H4.out _).mono ?_
  rintro e w6 ⟨aU, cU, rfl, b, q⟩
  have Q6 := Lib.hid (bthen Q5.out q)
  have Z6 := Lib.hid (Z5.out.below q Z5.out.lt)
  have P6 := Lib.hid (P5.out.below q)
  have R6 := Lib.hid (R5.out.below q)
  have S6 := Lib.hid (S5.out.below q)
  have U6 := Lib.hid b
  clear q b Q5 Z5 P5 R5 S5
  clear z0 z1 z2 z3 z4 z5
  obtain ⟨z0, z1, z2, z3, z4, z5⟩ := Z6.out.cells6
  go_wp2_with fail
  go_region_held3 (fun w' => w'.cell? ⟨A, 0, none⟩ = some (.int .i64 y) ∧ w'.cell? ⟨A, 1, none⟩ = some (.int .i64 m) ∧ w'.cell? ⟨A, 2, none⟩ = some (.int .i64 d) ∧ w'.cell? ⟨A, 3, none⟩ = some (.int .i64 h) ∧ w'.cell? ⟨A, 4, none⟩ = some (.int .i64 i) ∧ w'.cell? ⟨A, 5, none⟩ = some (.int .i64 s)) (first | exact ⟨z0, z1, z2, z3, z4, z5⟩ | exact ⟨k0, k1, k2, k3, k4, k5⟩ | exact ⟨j0, j1, j2, j3, j4, j5⟩ | assumption)
    (first
     | (go_at_call 13; (with_reducible refine (HBU.out _ _ _ _ _ P6.out.drew R6.out.drew).mono ?_); rintro e w' ⟨rfl, rfl⟩)
     | (go_at_call 13; (with_reducible refine (HBG.out _ _ _ _ _ S6.out.drew U6.out.drew).mono ?_); rintro e w' ⟨rfl, rfl⟩)
     | (go_at_call 14; (with_reducible refine (H5.out _ Q6.out.drew).mono ?_); rintro e w7 ⟨rfl, q⟩; have Q7 := Lib.hid (bthen Q6.out.drew q); have Z7 := Lib.hid ((Z6.out.drewN 1).below q (Z6.out.drewN 1).lt); have P7 := Lib.hid (P6.out.drew.below q); have S7 := Lib.hid (S6.out.drew.below q); clear q; obtain ⟨k0, k1, k2, k3, k4, k5⟩ := Z7.out.cells6)
     | (go_at_call 15; (with_reducible refine (H6.out _).mono ?_); rintro e w8 ⟨rfl, q⟩; have Q8 := Lib.hid (bthen Q7.out q); have Z8 := Lib.hid (Z7.out.below q Z7.out.lt); have P8 := Lib.hid (P7.out.below q); have S8 := Lib.hid (S7.out.below q); clear q; obtain ⟨j0, j1, j2, j3, j4, j5⟩ := Z8.out.cells6))
  clear z0 z1 z2 z3 z4 z5 k0 k1 k2 k3 k4 k5 j0 j1 j2 j3 j4 j5
  obtain ⟨z0, z1, z2, z3, z4, z5⟩ := Z8.out.cells6
  go_wp2_with fail
  with_reducible refine (H7.out _ _ _ P8.out Q8.out).mono ?_
  rintro e v9 ⟨rfl, q⟩
  clear z0 z1 z2 z3 z4 z5
  have QA := Lib.hid (bthen Q8.out q)
  have ZA := Lib.hid (Z8.out.below q Z8.out.lt)
  have SA := Lib.hid (S8.out.below q)
  clear q
  obtain ⟨M1, hM1⟩ : ∃ M, v9.heap.size = M := ⟨_, rfl⟩
  have lA := ZA.out.lt
  rw [hM1] at lA
  have Q9 := Lib.hid (bal QA.out (.cells #[.int .i64 0, .int .i64 0, .int .i64 0, .int .i64 0, .int .i64 0, .int .i64 0] 23))
  have Z9 := Lib.hid (ZA.out.alloc (.cells #[.int .i64 0, .int .i64 0, .int .i64 0, .int .i64 0, .int .i64 0, .int .i64 0] 23))
  have S9 := Lib.hid (SA.out.alloc (.cells #[.int .i64 0, .int .i64 0, .int .i64 0, .int .i64 0, .int .i64 0, .int .i64 0] 23))
  have X9 := Lib.hid (Blk.new v9 23 #[.int .i64 0, .int .i64 0, .int .i64 0, .int .i64 0, .int .i64 0, .int .i64 0])
  rw [hM1] at X9
  go_wp2_with fail
  generalize v9.alloc (.cells #[.int .i64 0, .int .i64 0, .int .i64 0, .int .i64 0, .int .i64 0, .int .i64 0] 23) = w9 at *
  clear hM1
  with_reducible refine (H8.out _ _ _ S9.out Q9.out).mono ?_
  rintro e v10 ⟨rfl, q⟩
  have QB := Lib.hid (bthen Q9.out q)
  have ZB := Lib.hid (Z9.out.below q Z9.out.lt)
  have XB := Lib.hid (X9.out.below q X9.out.lt)
  clear q
  obtain ⟨M2, hM2⟩ : ∃ M, v10.heap.size = M := ⟨_, rfl⟩
  have lB := ZB.out.lt
  have lX := XB.out.lt
  rw [hM2] at lB lX
  have Q10 := Lib.hid (bal QB.out (.cells #[.int .i64 0, .int .i64 0, .int .i64 0, .int .i64 0, .int .i64 0, .int .i64 0] 23))
  obtain ⟨z0, z1, z2, z3, z4, z5⟩ := ZB.out.cells6
  obtain ⟨u0, u1, u2, u3, u4, u5⟩ := XB.out.cells6
  go_wp2_with fail
  go_ret
  exact ⟨rfl, Q10.out⟩

theorem decU_nil : decU [] = (tm0, 6) := by decide
theorem decG_nil : decG [] = (tm0, 6) := by decide
theorem encodes_walk (t : Tm) (w : World)
    (HA : ∀ v : World, Below w.heap.size w v → Calls Tryd.prog 8 #[] v fun e w' => e = .returned (.bool true) ∧ Below v.heap.size v w')
    (HEU : ∀ (t : Tm) (v : World), Below w.heap.size w v → Calls Tryd.prog 9 #[tmV t] v fun e w' => ∃ a c, e = .returned (.tuple #[.slice a (utcE t).1.length c, .int .i64 (utcE t).2]) ∧ Bs w' a (utcE t).1.length c (utcE t).1 ∧ Below v.heap.size v w')
    (HEG : ∀ (t : Tm) (v : World), Below w.heap.size w v → Calls Tryd.prog 11 #[tmV t] v fun e w' => ∃ a c, e = .returned (.tuple #[.slice a (genE t).1.length c, .int .i64 (genE t).2]) ∧ Bs w' a (genE t).1.length c (genE t).1 ∧ Below v.heap.size v w')
    (HV : ∀ (t : Tm) (v : World), Below w.heap.size w v → Calls Tryd.prog 14 #[tmV t] v fun e w' => e = .returned (.bool (okT t)) ∧ Below v.heap.size v w')
    (HDU : ∀ (v : World) (a : Option Addr) (n c : Nat) (l : List UInt8), Bs v a n c l → Below w.heap.size w v → Calls Tryd.prog 16 #[.slice a n c] v fun e w' => e = .returned (.tuple #[tmV (decU l).1, .int .i64 (decU l).2]) ∧ Below v.heap.size v w')
    (HDG : ∀ (v : World) (a : Option Addr) (n c : Nat) (l : List UInt8), Bs v a n c l → Below w.heap.size w v → Calls Tryd.prog 17 #[.slice a n c] v fun e w' => e = .returned (.tuple #[tmV (decG l).1, .int .i64 (decG l).2]) ∧ Below v.heap.size v w') :
    Calls Tryd.prog 3 #[tmV t] w fun e w' => e = .returned (.bool true) ∧ Below w.heap.size w w' := by
  have H1 := HEU t
  have H2 := fun v => utc_any t v
  have H3 := HEG t
  have H4 := fun v => gen_any t v
  have H5 := HV t
  have H6 := fun v => cvalid_any t v
  have H7 := fun v a c (h : Bs v a (utcE t).1.length c (utcE t).1) q => HDU v a _ c _ h q
  have H8 := fun v a c (h : Bs v a (genE t).1.length c (genE t).1) q => HDG v a _ c _ h q
  rcases hok : okT t with _ | _
  · rw [hok] at H5 H6
    rw [show utcE t = ([], 8) by unfold utcE; rw [hok]; rfl] at H1 H2 H7
    rw [show genE t = ([], 8) by unfold genE; rw [hok]; rfl] at H3 H4 H8
    dsimp only at H7 H8
    rw [decU_nil] at H7
    rw [decG_nil] at H8
    exact encs_no _ _ _ _ _ _ _ _ _ _ w HA H1 H2 H3 H4 H5 H6 H7 H8
  · rw [hok] at H5 H6
    rw [show genE t = (genL t, 0) by unfold genE; rw [hok]; rfl] at H3 H4 H8
    dsimp only at H8
    rw [decG_back t hok] at H8
    by_cases hy : t.y < 1950 ∨ 2049 < t.y
    · rw [show utcE t = ([], 9) by unfold utcE; rw [hok, if_pos rfl, if_pos hy]] at H1 H2 H7
      dsimp only at H7
      rw [decU_nil] at H7
      exact encs_one _ _ _ _ _ _ _ _ _ _ w HA H1 H2 H3 H4 H5 H6 H7 H8
    · rw [show utcE t = (utcL t, 0) by unfold utcE; rw [hok, if_pos rfl, if_neg hy]] at H1 H2 H7
      dsimp only at H7
      rw [decU_back t hok (by omega)] at H7
      exact encs_all _ _ _ _ _ _ _ _ _ _ w HA H1 H2 H3 H4 H5 H6 H7 H8
end Go.Proofs.YtneeddbonhiflaaDoor
