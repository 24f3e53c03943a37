/-
  The walk of ClockSeconds over what its callees are asked to keep.
-/
import Derived.Test.YtneeddbonhiflaaDoorClCntLaw
import Derived.Test.YtneeddbonhiflaaDoorClCmp
namespace Go.Proofs.YtneeddbonhiflaaDoor
open Go.RowKit

set_option maxRecDepth 100000 in
set_option maxHeartbeats 8000000 in
theorem secs_no (y1 m1 d1 h1 i1 s1 y2 m2 d2 h2 i2 s2 : Int) (k g X Y : Int) (hXY : IntKind.i64.wrap (-X) = Y) (w : World)
    (H0 : Hid (∀ v : World, Below w.heap.size w v → Calls Tryd.prog 8 #[] v fun e w' => e = .returned (.bool true) ∧ Below v.heap.size v w'))
    (H1 : Hid (∀ v : World, Below w.heap.size w v → Calls Tryd.prog 20 #[.agg #[.int .i64 y1, .int .i64 m1, .int .i64 d1, .int .i64 h1, .int .i64 i1, .int .i64 s1]] v fun e w' => e = .returned (.tuple #[.int .i64 0, .int .i64 8]) ∧ Below v.heap.size v w'))
    (H2 : Hid (∀ v : World, Calls Tryd.prog 21 #[.agg #[.int .i64 y1, .int .i64 m1, .int .i64 d1, .int .i64 h1, .int .i64 i1, .int .i64 s1]] v fun e w' => e = .returned (.tuple #[.int .i64 0, .int .i64 8]) ∧ Below v.heap.size v w'))
    (H3 : Hid (∀ v : World, Below w.heap.size w v → Calls Tryd.prog 20 #[.agg #[.int .i64 y2, .int .i64 m2, .int .i64 d2, .int .i64 h2, .int .i64 i2, .int .i64 s2]] v fun e w' => e = .returned (.tuple #[.int .i64 k, .int .i64 g]) ∧ Below v.heap.size v w'))
    (H4 : Hid (∀ v : World, Below w.heap.size w v → Calls Tryd.prog 22 #[.agg #[.int .i64 y1, .int .i64 m1, .int .i64 d1, .int .i64 h1, .int .i64 i1, .int .i64 s1], .agg #[.int .i64 y2, .int .i64 m2, .int .i64 d2, .int .i64 h2, .int .i64 i2, .int .i64 s2]] v fun e w' => e = .returned (.int .i64 X) ∧ Below v.heap.size v w'))
    (H5 : Hid (∀ v : World, Calls Tryd.prog 23 #[.agg #[.int .i64 y1, .int .i64 m1, .int .i64 d1, .int .i64 h1, .int .i64 i1, .int .i64 s1], .agg #[.int .i64 y2, .int .i64 m2, .int .i64 d2, .int .i64 h2, .int .i64 i2, .int .i64 s2]] v fun e w' => e = .returned (.int .i64 X) ∧ Below v.heap.size v w'))
    (H6 : Hid (∀ v : World, Below w.heap.size w v → Calls Tryd.prog 22 #[.agg #[.int .i64 y2, .int .i64 m2, .int .i64 d2, .int .i64 h2, .int .i64 i2, .int .i64 s2], .agg #[.int .i64 y1, .int .i64 m1, .int .i64 d1, .int .i64 h1, .int .i64 i1, .int .i64 s1]] v fun e w' => e = .returned (.int .i64 Y) ∧ Below v.heap.size v w')) :
    Calls Tryd.prog 5 #[.agg #[.int .i64 y1, .int .i64 m1, .int .i64 d1, .int .i64 h1, .int .i64 i1, .int .i64 s1], .agg #[.int .i64 y2, .int .i64 m2, .int .i64 d2, .int .i64 h2, .int .i64 i2, .int .i64 s2]] w fun e w' => e = .returned (.bool true) ∧ Below w.heap.size w w' := by
  obtain ⟨w2, hw2⟩ : ∃ w2, (w.alloc (.cells #[.int .i64 y1, .int .i64 m1, .int .i64 d1, .int .i64 h1, .int .i64 i1, .int .i64 s1] 23)).alloc (.cells #[.int .i64 y2, .int .i64 m2, .int .i64 d2, .int .i64 h2, .int .i64 i2, .int .i64 s2] 23) = w2 := ⟨_, rfl⟩
  have Q2 : Hid (Below w.heap.size w w2) := by
    rw [← hw2]
    exact bal (bal (Below.refl _ _) _) _
  obtain ⟨A, hA⟩ : ∃ A, w.heap.size = A := ⟨_, rfl⟩
  have Z2 : Hid (Blk w2 A 23 #[.int .i64 y1, .int .i64 m1, .int .i64 d1, .int .i64 h1, .int .i64 i1, .int .i64 s1]) := by
    rw [← hw2, ← hA]
    exact (Blk.new w 23 #[.int .i64 y1, .int .i64 m1, .int .i64 d1, .int .i64 h1, .int .i64 i1, .int .i64 s1]).alloc (.cells #[.int .i64 y2, .int .i64 m2, .int .i64 d2, .int .i64 h2, .int .i64 i2, .int .i64 s2] 23)
  have V2 : Hid (Blk w2 (A + 1) 23 #[.int .i64 y2, .int .i64 m2, .int .i64 d2, .int .i64 h2, .int .i64 i2, .int .i64 s2]) := by
    rw [← hw2, ← hA]
    have := Blk.new (w.alloc (.cells #[.int .i64 y1, .int .i64 m1, .int .i64 d1, .int .i64 h1, .int .i64 i1, .int .i64 s1] 23)) 23 #[.int .i64 y2, .int .i64 m2, .int .i64 d2, .int .i64 h2, .int .i64 i2, .int .i64 s2]
    rw [Hid]
    simpa using this
  obtain ⟨D, hD⟩ : ∃ D, A + 1 = D := ⟨_, rfl⟩
  rw [hD] at V2
  have nAD : A ≠ D := by omega
  go_enter Tryd.func5, Tryd.ntmps5
  go_wp2_with fail
  clear hw2 hD
  with_reducible refine (H0.out _ Q2.out).mono ?_
  rintro e w3 ⟨rfl, q⟩
  have Q3 := Lib.hid (bthen Q2.out q)
  have Z3 := Lib.hid (Z2.out.below q Z2.out.lt)
  have V3 := Lib.hid (V2.out.below q V2.out.lt)
  clear q Z2 V2 Q2
  obtain ⟨z0, z1, z2, z3, z4, z5⟩ := Z3.out.cells6
  obtain ⟨u0, u1, u2, u3, u4, u5⟩ := V3.out.cells6
  go_wp2_with fail
  with_reducible refine (H1.out _ Q3.out).mono ?_
  rintro e w4 ⟨rfl, q⟩
  have Q4 := Lib.hid (bthen Q3.out q)
  have Z4 := Lib.hid (Z3.out.below q Z3.out.lt)
  have V4 := Lib.hid (V3.out.below q V3.out.lt)
  clear q Z3 V3 Q3
  clear z0 z1 z2 z3 z4 z5 u0 u1 u2 u3 u4 u5
  obtain ⟨z0, z1, z2, z3, z4, z5⟩ := Z4.out.cells6
  obtain ⟨u0, u1, u2, u3, u4, u5⟩ := V4.out.cells6
  go_wp2_with fail
  with_reducible refine (H2.out _).mono ?_
  rintro e w5 ⟨rfl, q⟩
  have Q5 := Lib.hid (bthen Q4.out q)
  have Z5 := Lib.hid (Z4.out.below q Z4.out.lt)
  have V5 := Lib.hid (V4.out.below q V4.out.lt)
  clear q Z4 V4 Q4
  clear z0 z1 z2 z3 z4 z5 u0 u1 u2 u3 u4 u5
  obtain ⟨z0, z1, z2, z3, z4, z5⟩ := Z5.out.cells6
  obtain ⟨u0, u1, u2, u3, u4, u5⟩ := V5.out.cells6
  go_wp2_with fail
  with_reducible refine (H3.out _ Q5.out).mono ?_
  rintro e w6 ⟨rfl, q⟩
  have Q6 := Lib.hid (bthen Q5.out q)
  have Z6 := Lib.hid (Z5.out.below q Z5.out.lt)
  have V6 := Lib.hid (V5.out.below q V5.out.lt)
  clear q Z5 V5 Q5
  clear z0 z1 z2 z3 z4 z5 u0 u1 u2 u3 u4 u5
  obtain ⟨z0, z1, z2, z3, z4, z5⟩ := Z6.out.cells6
  obtain ⟨u0, u1, u2, u3, u4, u5⟩ := V6.out.cells6
  go_wp2_with fail
  with_reducible refine (H4.out _ Q6.out).mono ?_
  rintro e w7 ⟨rfl, q⟩
  have Q7 := Lib.hid (bthen Q6.out q)
  have Z7 := Lib.hid (Z6.out.below q Z6.out.lt)
  have V7 := Lib.hid (V6.out.below q V6.out.lt)
  clear q Z6 V6 Q6
  clear z0 z1 z2 z3 z4 z5 u0 u1 u2 u3 u4 u5
  obtain ⟨z0, z1, z2, z3, z4, z5⟩ := Z7.out.cells6
  obtain ⟨u0, u1, u2, u3, u4, u5⟩ := V7.out.cells6
  go_wp2_with fail
  with_reducible refine (H5.out _).mono ?_
  rintro e w8 ⟨rfl, q⟩
  have Q8 := Lib.hid (bthen Q7.out q)
  have Z8 := Lib.hid (Z7.out.below q Z7.out.lt)
  have V8 := Lib.hid (V7.out.below q V7.out.lt)
  clear q Z7 V7 Q7
  clear z0 z1 z2 z3 z4 z5 u0 u1 u2 u3 u4 u5
  obtain ⟨z0, z1, z2, z3, z4, z5⟩ := Z8.out.cells6
  obtain ⟨u0, u1, u2, u3, u4, u5⟩ := V8.out.cells6
  go_wp2_with fail
  with_reducible refine (H6.out _ Q8.out).mono ?_
  rintro e w9 ⟨rfl, q⟩
  have Q9 := Lib.hid (bthen Q8.out q)
  have Z9 := Lib.hid (Z8.out.below q Z8.out.lt)
  have V9 := Lib.hid (V8.out.below q V8.out.lt)
  clear q Z8 V8 Q8
  clear z0 z1 z2 z3 z4 z5 u0 u1 u2 u3 u4 u5
  obtain ⟨z0, z1, z2, z3, z4, z5⟩ := Z9.out.cells6
  obtain ⟨u0, u1, u2, u3, u4, u5⟩ := V9.out.cells6
  go_wp2_with fail
  with_reducible refine (H5.out _).mono ?_
  rintro e w10 ⟨rfl, q⟩
  have Q10 := Lib.hid (bthen Q9.out q)
  have Z10 := Lib.hid (Z9.out.below q Z9.out.lt)
  have V10 := Lib.hid (V9.out.below q V9.out.lt)
  clear q Z9 V9 Q9
  clear z0 z1 z2 z3 z4 z5 u0 u1 u2 u3 u4 u5
  obtain ⟨z0, z1, z2, z3, z4, z5⟩ := Z10.out.cells6
  obtain ⟨u0, u1, u2, u3, u4, u5⟩ := V10.out.cells6
  go_wp2_with fail
  with_reducible refine (H6.out _ Q10.out).mono ?_
  rintro e w11 ⟨rfl, q⟩
  have Q11 := Lib.hid (bthen Q10.out q)
  have Z11 := Lib.hid (Z10.out.below q Z10.out.lt)
  have V11 := Lib.hid (V10.out.below q V10.out.lt)
  clear q Z10 V10 Q10
  clear z0 z1 z2 z3 z4 z5 u0 u1 u2 u3 u4 u5
  obtain ⟨z0, z1, z2, z3, z4, z5⟩ := Z11.out.cells6
  obtain ⟨u0, u1, u2, u3, u4, u5⟩ := V11.out.cells6
  go_wp2_with fail
  go_ret
  exact ⟨rfl, Q11.out⟩

set_option maxRecDepth 100000 in
set_option maxHeartbeats 8000000 in
theorem secs_one (y1 m1 d1 h1 i1 s1 y2 m2 d2 h2 i2 s2 : Int) (n k X Y : Int) (hXY : IntKind.i64.wrap (-X) = Y) (w : World)
    (H0 : Hid (∀ v : World, Below w.heap.size w v → Calls Tryd.prog 8 #[] v fun e w' => e = .returned (.bool true) ∧ Below v.heap.size v w'))
    (H1 : Hid (∀ v : World, Below w.heap.size w v → Calls Tryd.prog 20 #[.agg #[.int .i64 y1, .int .i64 m1, .int .i64 d1, .int .i64 h1, .int .i64 i1, .int .i64 s1]] v fun e w' => e = .returned (.tuple #[.int .i64 n, .int .i64 0]) ∧ Below v.heap.size v w'))
    (H2 : Hid (∀ v : World, Calls Tryd.prog 21 #[.agg #[.int .i64 y1, .int .i64 m1, .int .i64 d1, .int .i64 h1, .int .i64 i1, .int .i64 s1]] v fun e w' => e = .returned (.tuple #[.int .i64 n, .int .i64 0]) ∧ Below v.heap.size v w'))
    (H3 : Hid (∀ v : World, Below w.heap.size w v → Calls Tryd.prog 20 #[.agg #[.int .i64 y2, .int .i64 m2, .int .i64 d2, .int .i64 h2, .int .i64 i2, .int .i64 s2]] v fun e w' => e = .returned (.tuple #[.int .i64 k, .int .i64 8]) ∧ Below v.heap.size v w'))
    (H4 : Hid (∀ v : World, Below w.heap.size w v → Calls Tryd.prog 22 #[.agg #[.int .i64 y1, .int .i64 m1, .int .i64 d1, .int .i64 h1, .int .i64 i1, .int .i64 s1], .agg #[.int .i64 y2, .int .i64 m2, .int .i64 d2, .int .i64 h2, .int .i64 i2, .int .i64 s2]] v fun e w' => e = .returned (.int .i64 X) ∧ Below v.heap.size v w'))
    (H5 : Hid (∀ v : World, Calls Tryd.prog 23 #[.agg #[.int .i64 y1, .int .i64 m1, .int .i64 d1, .int .i64 h1, .int .i64 i1, .int .i64 s1], .agg #[.int .i64 y2, .int .i64 m2, .int .i64 d2, .int .i64 h2, .int .i64 i2, .int .i64 s2]] v fun e w' => e = .returned (.int .i64 X) ∧ Below v.heap.size v w'))
    (H6 : Hid (∀ v : World, Below w.heap.size w v → Calls Tryd.prog 22 #[.agg #[.int .i64 y2, .int .i64 m2, .int .i64 d2, .int .i64 h2, .int .i64 i2, .int .i64 s2], .agg #[.int .i64 y1, .int .i64 m1, .int .i64 d1, .int .i64 h1, .int .i64 i1, .int .i64 s1]] v fun e w' => e = .returned (.int .i64 Y) ∧ Below v.heap.size v w'))
    (H7 : Hid (∀ v : World, Below w.heap.size w v → Calls Tryd.prog 24 #[.int .i64 n] v fun e w' => e = .returned (.tuple #[.agg #[.int .i64 y1, .int .i64 m1, .int .i64 d1, .int .i64 h1, .int .i64 i1, .int .i64 s1], .int .i64 0]) ∧ Below v.heap.size v w')) :
    Calls Tryd.prog 5 #[.agg #[.int .i64 y1, .int .i64 m1, .int .i64 d1, .int .i64 h1, .int .i64 i1, .int .i64 s1], .agg #[.int .i64 y2, .int .i64 m2, .int .i64 d2, .int .i64 h2, .int .i64 i2, .int .i64 s2]] w fun e w' => e = .returned (.bool true) ∧ Below w.heap.size w w' := by
  obtain ⟨w2, hw2⟩ : ∃ w2, (w.alloc (.cells #[.int .i64 y1, .int .i64 m1, .int .i64 d1, .int .i64 h1, .int .i64 i1, .int .i64 s1] 23)).alloc (.cells #[.int .i64 y2, .int .i64 m2, .int .i64 d2, .int .i64 h2, .int .i64 i2, .int .i64 s2] 23) = w2 := ⟨_, rfl⟩
  have Q2 : Hid (Below w.heap.size w w2) := by
    rw [← hw2]
    exact bal (bal (Below.refl _ _) _) _
  obtain ⟨A, hA⟩ : ∃ A, w.heap.size = A := ⟨_, rfl⟩
  have Z2 : Hid (Blk w2 A 23 #[.int .i64 y1, .int .i64 m1, .int .i64 d1, .int .i64 h1, .int .i64 i1, .int .i64 s1]) := by
    rw [← hw2, ← hA]
    exact (Blk.new w 23 #[.int .i64 y1, .int .i64 m1, .int .i64 d1, .int .i64 h1, .int .i64 i1, .int .i64 s1]).alloc (.cells #[.int .i64 y2, .int .i64 m2, .int .i64 d2, .int .i64 h2, .int .i64 i2, .int .i64 s2] 23)
  have V2 : Hid (Blk w2 (A + 1) 23 #[.int .i64 y2, .int .i64 m2, .int .i64 d2, .int .i64 h2, .int .i64 i2, .int .i64 s2]) := by
    rw [← hw2, ← hA]
    have := Blk.new (w.alloc (.cells #[.int .i64 y1, .int .i64 m1, .int .i64 d1, .int .i64 h1, .int .i64 i1, .int .i64 s1] 23)) 23 #[.int .i64 y2, .int .i64 m2, .int .i64 d2, .int .i64 h2, .int .i64 i2, .int .i64 s2]
    rw [Hid]
    simpa using this
  obtain ⟨D, hD⟩ : ∃ D, A + 1 = D := ⟨_, rfl⟩
  rw [hD] at V2
  have nAD : A ≠ D := by omega
  go_enter Tryd.func5, Tryd.ntmps5
  go_wp2_with fail
  clear hw2 hD
  with_reducible refine (H0.out _ Q2.out).mono ?_
  rintro e w3 ⟨rfl, q⟩
  have Q3 := Lib.hid (bthen Q2.out q)
  have Z3 := Lib.hid (Z2.out.below q Z2.out.lt)
  have V3 := Lib.hid (V2.out.below q V2.out.lt)
  clear q Z2 V2 Q2
  obtain ⟨z0, z1, z2, z3, z4, z5⟩ := Z3.out.cells6
  obtain ⟨u0, u1, u2, u3, u4, u5⟩ := V3.out.cells6
  go_wp2_with fail
  with_reducible refine (H1.out _ Q3.out).mono ?_
  rintro e w4 ⟨rfl, q⟩
  have Q4 := Lib.hid (bthen Q3.out q)
  have Z4 := Lib.hid (Z3.out.below q Z3.out.lt)
  have V4 := Lib.hid (V3.out.below q V3.out.lt)
  clear q Z3 V3 Q3
  clear z0 z1 z2 z3 z4 z5 u0 u1 u2 u3 u4 u5
  obtain ⟨z0, z1, z2, z3, z4, z5⟩ := Z4.out.cells6
  obtain ⟨u0, u1, u2, u3, u4, u5⟩ := V4.out.cells6
  go_wp2_with fail
  with_reducible refine (H2.out _).mono ?_
  rintro e w5 ⟨rfl, q⟩
  have Q5 := Lib.hid (bthen Q4.out q)
  have Z5 := Lib.hid (Z4.out.below q Z4.out.lt)
  have V5 := Lib.hid (V4.out.below q V4.out.lt)
  clear q Z4 V4 Q4
  clear z0 z1 z2 z3 z4 z5 u0 u1 u2 u3 u4 u5
  obtain ⟨z0, z1, z2, z3, z4, z5⟩ := Z5.out.cells6
  obtain ⟨u0, u1, u2, u3, u4, u5⟩ := V5.out.cells6
  go_wp2_with fail
  with_reducible refine (H3.out _ Q5.out).mono ?_
  rintro e w6 ⟨rfl, q⟩
  have Q6 := Lib.hid (bthen Q5.out q)
  have Z6 := Lib.hid (Z5.out.below q Z5.out.lt)
  have V6 := Lib.hid (V5.out.below q V5.out.lt)
  clear q Z5 V5 Q5
  clear z0 z1 z2 z3 z4 z5 u0 u1 u2 u3 u4 u5
  obtain ⟨z0, z1, z2, z3, z4, z5⟩ := Z6.out.cells6
  obtain ⟨u0, u1, u2, u3, u4, u5⟩ := V6.out.cells6
  go_wp2_with fail
  with_reducible refine (H4.out _ Q6.out).mono ?_
  rintro e w7 ⟨rfl, q⟩
  have Q7 := Lib.hid (bthen Q6.out q)
  have Z7 := Lib.hid (Z6.out.below q Z6.out.lt)
  have V7 := Lib.hid (V6.out.below q V6.out.lt)
  clear q Z6 V6 Q6
  clear z0 z1 z2 z3 z4 z5 u0 u1 u2 u3 u4 u5
  obtain ⟨z0, z1, z2, z3, z4, z5⟩ := Z7.out.cells6
  obtain ⟨u0, u1, u2, u3, u4, u5⟩ := V7.out.cells6
  go_wp2_with fail
  with_reducible refine (H5.out _).mono ?_
  rintro e w8 ⟨rfl, q⟩
  have Q8 := Lib.hid (bthen Q7.out q)
  have Z8 := Lib.hid (Z7.out.below q Z7.out.lt)
  have V8 := Lib.hid (V7.out.below q V7.out.lt)
  clear q Z7 V7 Q7
  clear z0 z1 z2 z3 z4 z5 u0 u1 u2 u3 u4 u5
  obtain ⟨z0, z1, z2, z3, z4, z5⟩ := Z8.out.cells6
  obtain ⟨u0, u1, u2, u3, u4, u5⟩ := V8.out.cells6
  go_wp2_with fail
  with_reducible refine (H6.out _ Q8.out).mono ?_
  rintro e w9 ⟨rfl, q⟩
  have Q9 := Lib.hid (bthen Q8.out q)
  have Z9 := Lib.hid (Z8.out.below q Z8.out.lt)
  have V9 := Lib.hid (V8.out.below q V8.out.lt)
  clear q Z8 V8 Q8
  clear z0 z1 z2 z3 z4 z5 u0 u1 u2 u3 u4 u5
  obtain ⟨z0, z1, z2, z3, z4, z5⟩ := Z9.out.cells6
  obtain ⟨u0, u1, u2, u3, u4, u5⟩ := V9.out.cells6
  go_wp2_with fail
  with_reducible refine (H7.out _ Q9.out).mono ?_
  rintro e w10 ⟨rfl, q⟩
  have Q10 := Lib.hid (bthen Q9.out q)
  have Z10 := Lib.hid (Z9.out.below q Z9.out.lt)
  have zl := Z10.out.lt
  obtain ⟨M, hM⟩ : ∃ M, w10.heap.size = M := ⟨_, rfl⟩
  rw [hM] at zl
  clear q z0 z1 z2 z3 z4 z5 u0 u1 u2 u3 u4 u5
  obtain ⟨z0, z1, z2, z3, z4, z5⟩ := Z10.out.cells6
  have QF := Lib.hid (bal Q10.out (.cells #[.int .i64 y1, .int .i64 m1, .int .i64 d1, .int .i64 h1, .int .i64 i1, .int .i64 s1] 23))
  go_wp2_with fail
  go_ret
  exact ⟨rfl, QF.out⟩

set_option maxRecDepth 100000 in
set_option maxHeartbeats 8000000 in
theorem secs_lt (y1 m1 d1 h1 i1 s1 y2 m2 d2 h2 i2 s2 : Int) (n k : Int) (hnk : n < k) (w : World)
    (H0 : Hid (∀ v : World, Below w.heap.size w v → Calls Tryd.prog 8 #[] v fun e w' => e = .returned (.bool true) ∧ Below v.heap.size v w'))
    (H1 : Hid (∀ v : World, Below w.heap.size w v → Calls Tryd.prog 20 #[.agg #[.int .i64 y1, .int .i64 m1, .int .i64 d1, .int .i64 h1, .int .i64 i1, .int .i64 s1]] v fun e w' => e = .returned (.tuple #[.int .i64 n, .int .i64 0]) ∧ Below v.heap.size v w'))
    (H2 : Hid (∀ v : World, Calls Tryd.prog 21 #[.agg #[.int .i64 y1, .int .i64 m1, .int .i64 d1, .int .i64 h1, .int .i64 i1, .int .i64 s1]] v fun e w' => e = .returned (.tuple #[.int .i64 n, .int .i64 0]) ∧ Below v.heap.size v w'))
    (H3 : Hid (∀ v : World, Below w.heap.size w v → Calls Tryd.prog 20 #[.agg #[.int .i64 y2, .int .i64 m2, .int .i64 d2, .int .i64 h2, .int .i64 i2, .int .i64 s2]] v fun e w' => e = .returned (.tuple #[.int .i64 k, .int .i64 0]) ∧ Below v.heap.size v w'))
    (H4 : Hid (∀ v : World, Below w.heap.size w v → Calls Tryd.prog 22 #[.agg #[.int .i64 y1, .int .i64 m1, .int .i64 d1, .int .i64 h1, .int .i64 i1, .int .i64 s1], .agg #[.int .i64 y2, .int .i64 m2, .int .i64 d2, .int .i64 h2, .int .i64 i2, .int .i64 s2]] v fun e w' => e = .returned (.int .i64 (-1)) ∧ Below v.heap.size v w'))
    (H5 : Hid (∀ v : World, Calls Tryd.prog 23 #[.agg #[.int .i64 y1, .int .i64 m1, .int .i64 d1, .int .i64 h1, .int .i64 i1, .int .i64 s1], .agg #[.int .i64 y2, .int .i64 m2, .int .i64 d2, .int .i64 h2, .int .i64 i2, .int .i64 s2]] v fun e w' => e = .returned (.int .i64 (-1)) ∧ Below v.heap.size v w'))
    (H6 : Hid (∀ v : World, Below w.heap.size w v → Calls Tryd.prog 22 #[.agg #[.int .i64 y2, .int .i64 m2, .int .i64 d2, .int .i64 h2, .int .i64 i2, .int .i64 s2], .agg #[.int .i64 y1, .int .i64 m1, .int .i64 d1, .int .i64 h1, .int .i64 i1, .int .i64 s1]] v fun e w' => e = .returned (.int .i64 1) ∧ Below v.heap.size v w'))
    (H7 : Hid (∀ v : World, Below w.heap.size w v → Calls Tryd.prog 24 #[.int .i64 n] v fun e w' => e = .returned (.tuple #[.agg #[.int .i64 y1, .int .i64 m1, .int .i64 d1, .int .i64 h1, .int .i64 i1, .int .i64 s1], .int .i64 0]) ∧ Below v.heap.size v w')) :
    Calls Tryd.prog 5 #[.agg #[.int .i64 y1, .int .i64 m1, .int .i64 d1, .int .i64 h1, .int .i64 i1, .int .i64 s1], .agg #[.int .i64 y2, .int .i64 m2, .int .i64 d2, .int .i64 h2, .int .i64 i2, .int .i64 s2]] w fun e w' => e = .returned (.bool true) ∧ Below w.heap.size w w' := by
  have hk2 : (n == k) = false := by simp; omega
  obtain ⟨w2, hw2⟩ : ∃ w2, (w.alloc (.cells #[.int .i64 y1, .int .i64 m1, .int .i64 d1, .int .i64 h1, .int .i64 i1, .int .i64 s1] 23)).alloc (.cells #[.int .i64 y2, .int .i64 m2, .int .i64 d2, .int .i64 h2, .int .i64 i2, .int .i64 s2] 23) = w2 := ⟨_, rfl⟩
  have Q2 : Hid (Below w.heap.size w w2) := by
    rw [← hw2]
    exact bal (bal (Below.refl _ _) _) _
  obtain ⟨A, hA⟩ : ∃ A, w.heap.size = A := ⟨_, rfl⟩
  have Z2 : Hid (Blk w2 A 23 #[.int .i64 y1, .int .i64 m1, .int .i64 d1, .int .i64 h1, .int .i64 i1, .int .i64 s1]) := by
    rw [← hw2, ← hA]
    exact (Blk.new w 23 #[.int .i64 y1, .int .i64 m1, .int .i64 d1, .int .i64 h1, .int .i64 i1, .int .i64 s1]).alloc (.cells #[.int .i64 y2, .int .i64 m2, .int .i64 d2, .int .i64 h2, .int .i64 i2, .int .i64 s2] 23)
  have V2 : Hid (Blk w2 (A + 1) 23 #[.int .i64 y2, .int .i64 m2, .int .i64 d2, .int .i64 h2, .int .i64 i2, .int .i64 s2]) := by
    rw [← hw2, ← hA]
    have := Blk.new (w.alloc (.cells #[.int .i64 y1, .int .i64 m1, .int .i64 d1, .int .i64 h1, .int .i64 i1, .int .i64 s1] 23)) 23 #[.int .i64 y2, .int .i64 m2, .int .i64 d2, .int .i64 h2, .int .i64 i2, .int .i64 s2]
    rw [Hid]
    simpa using this
  obtain ⟨D, hD⟩ : ∃ D, A + 1 = D := ⟨_, rfl⟩
  rw [hD] at V2
  have nAD : A ≠ D := by omega
  go_enter Tryd.func5, Tryd.ntmps5
  go_wp2_with fail
  clear hw2 hD
  with_reducible refine (H0.out _ Q2.out).mono ?_
  rintro e w3 ⟨rfl, q⟩
  have Q3 := Lib.hid (bthen Q2.out q)
  have Z3 := Lib.hid (Z2.out.below q Z2.out.lt)
  have V3 := Lib.hid (V2.out.below q V2.out.lt)
  clear q Z2 V2 Q2
  obtain ⟨z0, z1, z2, z3, z4, z5⟩ := Z3.out.cells6
  obtain ⟨u0, u1, u2, u3, u4, u5⟩ := V3.out.cells6
  go_wp2_with fail
  with_reducible refine (H1.out _ Q3.out).mono ?_
  rintro e w4 ⟨rfl, q⟩
  have Q4 := Lib.hid (bthen Q3.out q)
  have Z4 := Lib.hid (Z3.out.below q Z3.out.lt)
  have V4 := Lib.hid (V3.out.below q V3.out.lt)
  clear q Z3 V3 Q3
  clear z0 z1 z2 z3 z4 z5 u0 u1 u2 u3 u4 u5
  obtain ⟨z0, z1, z2, z3, z4, z5⟩ := Z4.out.cells6
  obtain ⟨u0, u1, u2, u3, u4, u5⟩ := V4.out.cells6
  go_wp2_with fail
  with_reducible refine (H2.out _).mono ?_
  rintro e w5 ⟨rfl, q⟩
  have Q5 := Lib.hid (bthen Q4.out q)
  have Z5 := Lib.hid (Z4.out.below q Z4.out.lt)
  have V5 := Lib.hid (V4.out.below q V4.out.lt)
  clear q Z4 V4 Q4
  clear z0 z1 z2 z3 z4 z5 u0 u1 u2 u3 u4 u5
  obtain ⟨z0, z1, z2, z3, z4, z5⟩ := Z5.out.cells6
  obtain ⟨u0, u1, u2, u3, u4, u5⟩ := V5.out.cells6
  go_wp2_with fail
  with_reducible refine (H3.out _ Q5.out).mono ?_
  rintro e w6 ⟨rfl, q⟩
  have Q6 := Lib.hid (bthen Q5.out q)
  have Z6 := Lib.hid (Z5.out.below q Z5.out.lt)
  have V6 := Lib.hid (V5.out.below q V5.out.lt)
  clear q Z5 V5 Q5
  clear z0 z1 z2 z3 z4 z5 u0 u1 u2 u3 u4 u5
  obtain ⟨z0, z1, z2, z3, z4, z5⟩ := Z6.out.cells6
  obtain ⟨u0, u1, u2, u3, u4, u5⟩ := V6.out.cells6
  go_wp2_with fail
  with_reducible refine (H4.out _ Q6.out).mono ?_
  rintro e w7 ⟨rfl, q⟩
  have Q7 := Lib.hid (bthen Q6.out q)
  have Z7 := Lib.hid (Z6.out.below q Z6.out.lt)
  have V7 := Lib.hid (V6.out.below q V6.out.lt)
  clear q Z6 V6 Q6
  clear z0 z1 z2 z3 z4 z5 u0 u1 u2 u3 u4 u5
  obtain ⟨z0, z1, z2, z3, z4, z5⟩ := Z7.out.cells6
  obtain ⟨u0, u1, u2, u3, u4, u5⟩ := V7.out.cells6
  go_wp2_with fail
  with_reducible refine (H5.out _).mono ?_
  rintro e w8 ⟨rfl, q⟩
  have Q8 := Lib.hid (bthen Q7.out q)
  have Z8 := Lib.hid (Z7.out.below q Z7.out.lt)
  have V8 := Lib.hid (V7.out.below q V7.out.lt)
  clear q Z7 V7 Q7
  clear z0 z1 z2 z3 z4 z5 u0 u1 u2 u3 u4 u5
  obtain ⟨z0, z1, z2, z3, z4, z5⟩ := Z8.out.cells6
  obtain ⟨u0, u1, u2, u3, u4, u5⟩ := V8.out.cells6
  go_wp2_with fail
  with_reducible refine (H6.out _ Q8.out).mono ?_
  rintro e w9 ⟨rfl, q⟩
  have Q9 := Lib.hid (bthen Q8.out q)
  have Z9 := Lib.hid (Z8.out.below q Z8.out.lt)
  have V9 := Lib.hid (V8.out.below q V8.out.lt)
  clear q Z8 V8 Q8
  clear z0 z1 z2 z3 z4 z5 u0 u1 u2 u3 u4 u5
  obtain ⟨z0, z1, z2, z3, z4, z5⟩ := Z9.out.cells6
  obtain ⟨u0, u1, u2, u3, u4, u5⟩ := V9.out.cells6
  go_wp2_with fail
  with_reducible refine (H7.out _ Q9.out).mono ?_
  rintro e w10 ⟨rfl, q⟩
  have Q10 := Lib.hid (bthen Q9.out q)
  have Z10 := Lib.hid (Z9.out.below q Z9.out.lt)
  have zl := Z10.out.lt
  obtain ⟨M, hM⟩ : ∃ M, w10.heap.size = M := ⟨_, rfl⟩
  rw [hM] at zl
  clear q z0 z1 z2 z3 z4 z5 u0 u1 u2 u3 u4 u5
  obtain ⟨z0, z1, z2, z3, z4, z5⟩ := Z10.out.cells6
  have QF := Lib.hid (bal Q10.out (.cells #[.int .i64 y1, .int .i64 m1, .int .i64 d1, .int .i64 h1, .int .i64 i1, .int .i64 s1] 23))
  go_wp2_with fail
  go_ret
  exact ⟨rfl, QF.out⟩

set_option maxRecDepth 100000 in
set_option maxHeartbeats 8000000 in
theorem secs_eq (y1 m1 d1 h1 i1 s1 y2 m2 d2 h2 i2 s2 : Int) (n k : Int) (hnk : n = k) (w : World)
    (H0 : Hid (∀ v : World, Below w.heap.size w v → Calls Tryd.prog 8 #[] v fun e w' => e = .returned (.bool true) ∧ Below v.heap.size v w'))
    (H1 : Hid (∀ v : World, Below w.heap.size w v → Calls Tryd.prog 20 #[.agg #[.int .i64 y1, .int .i64 m1, .int .i64 d1, .int .i64 h1, .int .i64 i1, .int .i64 s1]] v fun e w' => e = .returned (.tuple #[.int .i64 n, .int .i64 0]) ∧ Below v.heap.size v w'))
    (H2 : Hid (∀ v : World, Calls Tryd.prog 21 #[.agg #[.int .i64 y1, .int .i64 m1, .int .i64 d1, .int .i64 h1, .int .i64 i1, .int .i64 s1]] v fun e w' => e = .returned (.tuple #[.int .i64 n, .int .i64 0]) ∧ Below v.heap.size v w'))
    (H3 : Hid (∀ v : World, Below w.heap.size w v → Calls Tryd.prog 20 #[.agg #[.int .i64 y2, .int .i64 m2, .int .i64 d2, .int .i64 h2, .int .i64 i2, .int .i64 s2]] v fun e w' => e = .returned (.tuple #[.int .i64 k, .int .i64 0]) ∧ Below v.heap.size v w'))
    (H4 : Hid (∀ v : World, Below w.heap.size w v → Calls Tryd.prog 22 #[.agg #[.int .i64 y1, .int .i64 m1, .int .i64 d1, .int .i64 h1, .int .i64 i1, .int .i64 s1], .agg #[.int .i64 y2, .int .i64 m2, .int .i64 d2, .int .i64 h2, .int .i64 i2, .int .i64 s2]] v fun e w' => e = .returned (.int .i64 0) ∧ Below v.heap.size v w'))
    (H5 : Hid (∀ v : World, Calls Tryd.prog 23 #[.agg #[.int .i64 y1, .int .i64 m1, .int .i64 d1, .int .i64 h1, .int .i64 i1, .int .i64 s1], .agg #[.int .i64 y2, .int .i64 m2, .int .i64 d2, .int .i64 h2, .int .i64 i2, .int .i64 s2]] v fun e w' => e = .returned (.int .i64 0) ∧ Below v.heap.size v w'))
    (H6 : Hid (∀ v : World, Below w.heap.size w v → Calls Tryd.prog 22 #[.agg #[.int .i64 y2, .int .i64 m2, .int .i64 d2, .int .i64 h2, .int .i64 i2, .int .i64 s2], .agg #[.int .i64 y1, .int .i64 m1, .int .i64 d1, .int .i64 h1, .int .i64 i1, .int .i64 s1]] v fun e w' => e = .returned (.int .i64 0) ∧ Below v.heap.size v w'))
    (H7 : Hid (∀ v : World, Below w.heap.size w v → Calls Tryd.prog 24 #[.int .i64 n] v fun e w' => e = .returned (.tuple #[.agg #[.int .i64 y1, .int .i64 m1, .int .i64 d1, .int .i64 h1, .int .i64 i1, .int .i64 s1], .int .i64 0]) ∧ Below v.heap.size v w')) :
    Calls Tryd.prog 5 #[.agg #[.int .i64 y1, .int .i64 m1, .int .i64 d1, .int .i64 h1, .int .i64 i1, .int .i64 s1], .agg #[.int .i64 y2, .int .i64 m2, .int .i64 d2, .int .i64 h2, .int .i64 i2, .int .i64 s2]] w fun e w' => e = .returned (.bool true) ∧ Below w.heap.size w w' := by
  subst hnk
  obtain ⟨w2, hw2⟩ : ∃ w2, (w.alloc (.cells #[.int .i64 y1, .int .i64 m1, .int .i64 d1, .int .i64 h1, .int .i64 i1, .int .i64 s1] 23)).alloc (.cells #[.int .i64 y2, .int .i64 m2, .int .i64 d2, .int .i64 h2, .int .i64 i2, .int .i64 s2] 23) = w2 := ⟨_, rfl⟩
  have Q2 : Hid (Below w.heap.size w w2) := by
    rw [← hw2]
    exact bal (bal (Below.refl _ _) _) _
  obtain ⟨A, hA⟩ : ∃ A, w.heap.size = A := ⟨_, rfl⟩
  have Z2 : Hid (Blk w2 A 23 #[.int .i64 y1, .int .i64 m1, .int .i64 d1, .int .i64 h1, .int .i64 i1, .int .i64 s1]) := by
    rw [← hw2, ← hA]
    exact (Blk.new w 23 #[.int .i64 y1, .int .i64 m1, .int .i64 d1, .int .i64 h1, .int .i64 i1, .int .i64 s1]).alloc (.cells #[.int .i64 y2, .int .i64 m2, .int .i64 d2, .int .i64 h2, .int .i64 i2, .int .i64 s2] 23)
  have V2 : Hid (Blk w2 (A + 1) 23 #[.int .i64 y2, .int .i64 m2, .int .i64 d2, .int .i64 h2, .int .i64 i2, .int .i64 s2]) := by
    rw [← hw2, ← hA]
    have := Blk.new (w.alloc (.cells #[.int .i64 y1, .int .i64 m1, .int .i64 d1, .int .i64 h1, .int .i64 i1, .int .i64 s1] 23)) 23 #[.int .i64 y2, .int .i64 m2, .int .i64 d2, .int .i64 h2, .int .i64 i2, .int .i64 s2]
    rw [Hid]
    simpa using this
  obtain ⟨D, hD⟩ : ∃ D, A + 1 = D := ⟨_, rfl⟩
  rw [hD] at V2
  have nAD : A ≠ D := by omega
  go_enter Tryd.func5, Tryd.ntmps5
  go_wp2_with fail
  clear hw2 hD
  with_reducible refine (H0.out _ Q2.out).mono ?_
  rintro e w3 ⟨rfl, q⟩
  have Q3 := Lib.hid (bthen Q2.out q)
  have Z3 := Lib.hid (Z2.out.below q Z2.out.lt)
  have V3 := Lib.hid (V2.out.below q V2.out.lt)
  clear q Z2 V2 Q2
  obtain ⟨z0, z1, z2, z3, z4, z5⟩ := Z3.out.cells6
  obtain ⟨u0, u1, u2, u3, u4, u5⟩ := V3.out.cells6
  go_wp2_with fail
  with_reducible refine (H1.out _ Q3.out).mono ?_
  rintro e w4 ⟨rfl, q⟩
  have Q4 := Lib.hid (bthen Q3.out q)
  have Z4 := Lib.hid (Z3.out.below q Z3.out.lt)
  have V4 := Lib.hid (V3.out.below q V3.out.lt)
  clear q Z3 V3 Q3
  clear z0 z1 z2 z3 z4 z5 u0 u1 u2 u3 u4 u5
  obtain ⟨z0, z1, z2, z3, z4, z5⟩ := Z4.out.cells6
  obtain ⟨u0, u1, u2, u3, u4, u5⟩ := V4.out.cells6
  go_wp2_with fail
  with_reducible refine (H2.out _).mono ?_
  rintro e w5 ⟨rfl, q⟩
  have Q5 := Lib.hid (bthen Q4.out q)
  have Z5 := Lib.hid (Z4.out.below q Z4.out.lt)
  have V5 := Lib.hid (V4.out.below q V4.out.lt)
  clear q Z4 V4 Q4
  clear z0 z1 z2 z3 z4 z5 u0 u1 u2 u3 u4 u5
  obtain ⟨z0, z1, z2, z3, z4, z5⟩ := Z5.out.cells6
  obtain ⟨u0, u1, u2, u3, u4, u5⟩ := V5.out.cells6
  go_wp2_with fail
  with_reducible refine (H3.out _ Q5.out).mono ?_
  rintro e w6 ⟨rfl, q⟩
  have Q6 := Lib.hid (bthen Q5.out q)
  have Z6 := Lib.hid (Z5.out.below q Z5.out.lt)
  have V6 := Lib.hid (V5.out.below q V5.out.lt)
  clear q Z5 V5 Q5
  clear z0 z1 z2 z3 z4 z5 u0 u1 u2 u3 u4 u5
  obtain ⟨z0, z1, z2, z3, z4, z5⟩ := Z6.out.cells6
  obtain ⟨u0, u1, u2, u3, u4, u5⟩ := V6.out.cells6
  go_wp2_with fail
  with_reducible refine (H4.out _ Q6.out).mono ?_
  rintro e w7 ⟨rfl, q⟩
  have Q7 := Lib.hid (bthen Q6.out q)
  have Z7 := Lib.hid (Z6.out.below q Z6.out.lt)
  have V7 := Lib.hid (V6.out.below q V6.out.lt)
  clear q Z6 V6 Q6
  clear z0 z1 z2 z3 z4 z5 u0 u1 u2 u3 u4 u5
  obtain ⟨z0, z1, z2, z3, z4, z5⟩ := Z7.out.cells6
  obtain ⟨u0, u1, u2, u3, u4, u5⟩ := V7.out.cells6
  go_wp2_with fail
  with_reducible refine (H5.out _).mono ?_
  rintro e w8 ⟨rfl, q⟩
  have Q8 := Lib.hid (bthen Q7.out q)
  have Z8 := Lib.hid (Z7.out.below q Z7.out.lt)
  have V8 := Lib.hid (V7.out.below q V7.out.lt)
  clear q Z7 V7 Q7
  clear z0 z1 z2 z3 z4 z5 u0 u1 u2 u3 u4 u5
  obtain ⟨z0, z1, z2, z3, z4, z5⟩ := Z8.out.cells6
  obtain ⟨u0, u1, u2, u3, u4, u5⟩ := V8.out.cells6
  go_wp2_with fail
  with_reducible refine (H6.out _ Q8.out).mono ?_
  rintro e w9 ⟨rfl, q⟩
  have Q9 := Lib.hid (bthen Q8.out q)
  have Z9 := Lib.hid (Z8.out.below q Z8.out.lt)
  have V9 := Lib.hid (V8.out.below q V8.out.lt)
  clear q Z8 V8 Q8
  clear z0 z1 z2 z3 z4 z5 u0 u1 u2 u3 u4 u5
  obtain ⟨z0, z1, z2, z3, z4, z5⟩ := Z9.out.cells6
  obtain ⟨u0, u1, u2, u3, u4, u5⟩ := V9.out.cells6
  go_wp2_with fail
  with_reducible refine (H7.out _ Q9.out).mono ?_
  rintro e w10 ⟨rfl, q⟩
  have Q10 := Lib.hid (bthen Q9.out q)
  have Z10 := Lib.hid (Z9.out.below q Z9.out.lt)
  have zl := Z10.out.lt
  obtain ⟨M, hM⟩ : ∃ M, w10.heap.size = M := ⟨_, rfl⟩
  rw [hM] at zl
  clear q z0 z1 z2 z3 z4 z5 u0 u1 u2 u3 u4 u5
  obtain ⟨z0, z1, z2, z3, z4, z5⟩ := Z10.out.cells6
  have QF := Lib.hid (bal Q10.out (.cells #[.int .i64 y1, .int .i64 m1, .int .i64 d1, .int .i64 h1, .int .i64 i1, .int .i64 s1] 23))
  go_wp2_with fail
  go_ret
  exact ⟨rfl, QF.out⟩

set_option maxRecDepth 100000 in
set_option maxHeartbeats 8000000 in
theorem secs_gt (y1 m1 d1 h1 i1 s1 y2 m2 d2 h2 i2 s2 : Int) (n k : Int) (hnk : k < n) (w : World)
    (H0 : Hid (∀ v : World, Below w.heap.size w v → Calls Tryd.prog 8 #[] v fun e w' => e = .returned (.bool true) ∧ Below v.heap.size v w'))
    (H1 : Hid (∀ v : World, Below w.heap.size w v → Calls Tryd.prog 20 #[.agg #[.int .i64 y1, .int .i64 m1, .int .i64 d1, .int .i64 h1, .int .i64 i1, .int .i64 s1]] v fun e w' => e = .returned (.tuple #[.int .i64 n, .int .i64 0]) ∧ Below v.heap.size v w'))
    (H2 : Hid (∀ v : World, Calls Tryd.prog 21 #[.agg #[.int .i64 y1, .int .i64 m1, .int .i64 d1, .int .i64 h1, .int .i64 i1, .int .i64 s1]] v fun e w' => e = .returned (.tuple #[.int .i64 n, .int .i64 0]) ∧ Below v.heap.size v w'))
    (H3 : Hid (∀ v : World, Below w.heap.size w v → Calls Tryd.prog 20 #[.agg #[.int .i64 y2, .int .i64 m2, .int .i64 d2, .int .i64 h2, .int .i64 i2, .int .i64 s2]] v fun e w' => e = .returned (.tuple #[.int .i64 k, .int .i64 0]) ∧ Below v.heap.size v w'))
    (H4 : Hid (∀ v : World, Below w.heap.size w v → Calls Tryd.prog 22 #[.agg #[.int .i64 y1, .int .i64 m1, .int .i64 d1, .int .i64 h1, .int .i64 i1, .int .i64 s1], .agg #[.int .i64 y2, .int .i64 m2, .int .i64 d2, .int .i64 h2, .int .i64 i2, .int .i64 s2]] v fun e w' => e = .returned (.int .i64 1) ∧ Below v.heap.size v w'))
    (H5 : Hid (∀ v : World, Calls Tryd.prog 23 #[.agg #[.int .i64 y1, .int .i64 m1, .int .i64 d1, .int .i64 h1, .int .i64 i1, .int .i64 s1], .agg #[.int .i64 y2, .int .i64 m2, .int .i64 d2, .int .i64 h2, .int .i64 i2, .int .i64 s2]] v fun e w' => e = .returned (.int .i64 1) ∧ Below v.heap.size v w'))
    (H6 : Hid (∀ v : World, Below w.heap.size w v → Calls Tryd.prog 22 #[.agg #[.int .i64 y2, .int .i64 m2, .int .i64 d2, .int .i64 h2, .int .i64 i2, .int .i64 s2], .agg #[.int .i64 y1, .int .i64 m1, .int .i64 d1, .int .i64 h1, .int .i64 i1, .int .i64 s1]] v fun e w' => e = .returned (.int .i64 (-1)) ∧ Below v.heap.size v w'))
    (H7 : Hid (∀ v : World, Below w.heap.size w v → Calls Tryd.prog 24 #[.int .i64 n] v fun e w' => e = .returned (.tuple #[.agg #[.int .i64 y1, .int .i64 m1, .int .i64 d1, .int .i64 h1, .int .i64 i1, .int .i64 s1], .int .i64 0]) ∧ Below v.heap.size v w')) :
    Calls Tryd.prog 5 #[.agg #[.int .i64 y1, .int .i64 m1, .int .i64 d1, .int .i64 h1, .int .i64 i1, .int .i64 s1], .agg #[.int .i64 y2, .int .i64 m2, .int .i64 d2, .int .i64 h2, .int .i64 i2, .int .i64 s2]] w fun e w' => e = .returned (.bool true) ∧ Below w.heap.size w w' := by
  have hk1 : decide (n < k) = false := decide_eq_false (by omega)
  have hk2 : (n == k) = false := by simp; omega
  have hk3 : ¬ n < k := by omega
  obtain ⟨w2, hw2⟩ : ∃ w2, (w.alloc (.cells #[.int .i64 y1, .int .i64 m1, .int .i64 d1, .int .i64 h1, .int .i64 i1, .int .i64 s1] 23)).alloc (.cells #[.int .i64 y2, .int .i64 m2, .int .i64 d2, .int .i64 h2, .int .i64 i2, .int .i64 s2] 23) = w2 := ⟨_, rfl⟩
  have Q2 : Hid (Below w.heap.size w w2) := by
    rw [← hw2]
    exact bal (bal (Below.refl _ _) _) _
  obtain ⟨A, hA⟩ : ∃ A, w.heap.size = A := ⟨_, rfl⟩
  have Z2 : Hid (Blk w2 A 23 #[.int .i64 y1, .int .i64 m1, .int .i64 d1, .int .i64 h1, .int .i64 i1, .int .i64 s1]) := by
    rw [← hw2, ← hA]
    exact (Blk.new w 23 #[.int .i64 y1, .int .i64 m1, .int .i64 d1, .int .i64 h1, .int .i64 i1, .int .i64 s1]).alloc (.cells #[.int .i64 y2, .int .i64 m2, .int .i64 d2, .int .i64 h2, .int .i64 i2, .int .i64 s2] 23)
  have V2 : Hid (Blk w2 (A + 1) 23 #[.int .i64 y2, .int .i64 m2, .int .i64 d2, .int .i64 h2, .int .i64 i2, .int .i64 s2]) := by
    rw [← hw2, ← hA]
    have := Blk.new (w.alloc (.cells #[.int .i64 y1, .int .i64 m1, .int .i64 d1, .int .i64 h1, .int .i64 i1, .int .i64 s1] 23)) 23 #[.int .i64 y2, .int .i64 m2, .int .i64 d2, .int .i64 h2, .int .i64 i2, .int .i64 s2]
    rw [Hid]
    simpa using this
  obtain ⟨D, hD⟩ : ∃ D, A + 1 = D := ⟨_, rfl⟩
  rw [hD] at V2
  have nAD : A ≠ D := by omega
  go_enter Tryd.func5, Tryd.ntmps5
  go_wp2_with fail
  clear hw2 hD
  with_reducible refine (H0.out _ Q2.out).mono ?_
  rintro e w3 ⟨rfl, q⟩
  have Q3 := Lib.hid (bthen Q2.out q)
  have Z3 := Lib.hid (Z2.out.below q Z2.out.lt)
  have V3 := Lib.hid (V2.out.below q V2.out.lt)
  clear q Z2 V2 Q2
  obtain ⟨z0, z1, z2, z3, z4, z5⟩ := Z3.out.cells6
  obtain ⟨u0, u1, u2, u3, u4, u5⟩ := V3.out.cells6
  go_wp2_with fail
  with_reducible refine (H1.out _ Q3.out).mono ?_
  rintro e w4 ⟨rfl, q⟩
  have Q4 := Lib.hid (bthen Q3.out q)
  have Z4 := Lib.hid (Z3.out.below q Z3.out.lt)
  have V4 := Lib.hid (V3.out.below q V3.out.lt)
  clear q Z3 V3 Q3
  clear z0 z1 z2 z3 z4 z5 u0 u1 u2 u3 u4 u5
  obtain ⟨z0, z1, z2, z3, z4, z5⟩ := Z4.out.cells6
  obtain ⟨u0, u1, u2, u3, u4, u5⟩ := V4.out.cells6
  go_wp2_with fail
  with_reducible refine (H2.out _).mono ?_
  rintro e w5 ⟨rfl, q⟩
  have Q5 := Lib.hid (bthen Q4.out q)
  have Z5 := Lib.hid (Z4.out.below q Z4.out.lt)
  have V5 := Lib.hid (V4.out.below q V4.out.lt)
  clear q Z4 V4 Q4
  clear z0 z1 z2 z3 z4 z5 u0 u1 u2 u3 u4 u5
  obtain ⟨z0, z1, z2, z3, z4, z5⟩ := Z5.out.cells6
  obtain ⟨u0, u1, u2, u3, u4, u5⟩ := V5.out.cells6
  go_wp2_with fail
  with_reducible refine (H3.out _ Q5.out).mono ?_
  rintro e w6 ⟨rfl, q⟩
  have Q6 := Lib.hid (bthen Q5.out q)
  have Z6 := Lib.hid (Z5.out.below q Z5.out.lt)
  have V6 := Lib.hid (V5.out.below q V5.out.lt)
  clear q Z5 V5 Q5
  clear z0 z1 z2 z3 z4 z5 u0 u1 u2 u3 u4 u5
  obtain ⟨z0, z1, z2, z3, z4, z5⟩ := Z6.out.cells6
  obtain ⟨u0, u1, u2, u3, u4, u5⟩ := V6.out.cells6
  go_wp2_with fail
  with_reducible refine (H4.out _ Q6.out).mono ?_
  rintro e w7 ⟨rfl, q⟩
  have Q7 := Lib.hid (bthen Q6.out q)
  have Z7 := Lib.hid (Z6.out.below q Z6.out.lt)
  have V7 := Lib.hid (V6.out.below q V6.out.lt)
  clear q Z6 V6 Q6
  clear z0 z1 z2 z3 z4 z5 u0 u1 u2 u3 u4 u5
  obtain ⟨z0, z1, z2, z3, z4, z5⟩ := Z7.out.cells6
  obtain ⟨u0, u1, u2, u3, u4, u5⟩ := V7.out.cells6
  go_wp2_with fail
  with_reducible refine (H5.out _).mono ?_
  rintro e w8 ⟨rfl, q⟩
  have Q8 := Lib.hid (bthen Q7.out q)
  have Z8 := Lib.hid (Z7.out.below q Z7.out.lt)
  have V8 := Lib.hid (V7.out.below q V7.out.lt)
  clear q Z7 V7 Q7
  clear z0 z1 z2 z3 z4 z5 u0 u1 u2 u3 u4 u5
  obtain ⟨z0, z1, z2, z3, z4, z5⟩ := Z8.out.cells6
  obtain ⟨u0, u1, u2, u3, u4, u5⟩ := V8.out.cells6
  go_wp2_with fail
  with_reducible refine (H6.out _ Q8.out).mono ?_
  rintro e w9 ⟨rfl, q⟩
  have Q9 := Lib.hid (bthen Q8.out q)
  have Z9 := Lib.hid (Z8.out.below q Z8.out.lt)
  have V9 := Lib.hid (V8.out.below q V8.out.lt)
  clear q Z8 V8 Q8
  clear z0 z1 z2 z3 z4 z5 u0 u1 u2 u3 u4 u5
  obtain ⟨z0, z1, z2, z3, z4, z5⟩ := Z9.out.cells6
  obtain ⟨u0, u1, u2, u3, u4, u5⟩ := V9.out.cells6
  go_wp2_with fail
  with_reducible refine (H7.out _ Q9.out).mono ?_
  rintro e w10 ⟨rfl, q⟩
  have Q10 := Lib.hid (bthen Q9.out q)
  have Z10 := Lib.hid (Z9.out.below q Z9.out.lt)
  have zl := Z10.out.lt
  obtain ⟨M, hM⟩ : ∃ M, w10.heap.size = M := ⟨_, rfl⟩
  rw [hM] at zl
  clear q z0 z1 z2 z3 z4 z5 u0 u1 u2 u3 u4 u5
  obtain ⟨z0, z1, z2, z3, z4, z5⟩ := Z10.out.cells6
  have QF := Lib.hid (bal Q10.out (.cells #[.int .i64 y1, .int .i64 m1, .int .i64 d1, .int .i64 h1, .int .i64 i1, .int .i64 s1] 23))
  go_wp2_with fail
  go_ret
  exact ⟨rfl, QF.out⟩

/-- the seconds of a valid point in time are within the limits -/
theorem sec_bd {t : Tm} (h : okT t = true) : -62167219200 ≤ secT t ∧ secT t ≤ 253402300799 := by
  have h1 := okT_bounds h
  obtain ⟨⟨h2, h3⟩, _⟩ := okT_iff.1 h
  have e := dno_day t.y t.m t.d
  have e0 : dno 0 1 1 = -719528 := by decide
  have e9 : dno 9999 12 1 = 2932866 := by decide
  have lo : dno 0 1 1 ≤ dno t.y t.m 1 := by
    by_cases hz : t.y = 0 ∧ t.m = 1
    · rw [hz.1, hz.2]; exact Int.le_refl _
    · have := month_lt (y := 0) (m := 1) (y2 := t.y) (m2 := t.m) (by decide) (by omega) (by omega)
      have := dys_le 0 1
      omega
  have hi : dno t.y t.m 1 + dys t.y t.m ≤ 2932897 := by
    by_cases hz : t.y = 9999 ∧ t.m = 12
    · rw [hz.1, hz.2, e9]
      have : dys 9999 12 = 31 := by decide
      omega
    · have := month_lt (y := t.y) (m := t.m) (y2 := 9999) (m2 := 12) (by omega) (by decide) (by omega)
      omega
  unfold secT
  omega
theorem wr_neg {X : Int} (h : X = -1 ∨ X = 0 ∨ X = 1) : IntKind.i64.wrap (-X) = -X := by rw [IntKind.wrap_i64]; omega
theorem seconds_walk (a b : Tm) (w : World)
    (HA : ∀ v : World, Below w.heap.size w v → Calls Tryd.prog 8 #[] v fun e w' => e = .returned (.bool true) ∧ Below v.heap.size v w')
    (HF : ∀ (n : Int) (v : World), -9223372036854775808 ≤ n ∧ n ≤ 9223372036854775807 → Below w.heap.size w v → Calls Tryd.prog 24 #[.int .i64 n] v fun e w' => (∃ T k, e = .returned (.tuple #[tmV T, .int .i64 k]) ∧ ((n < -62167219200 ∨ 253402300799 < n) → T = tm0 ∧ k = 9) ∧ (-62167219200 ≤ n ∧ n ≤ 253402300799 → okT T = true ∧ secT T = n ∧ k = 0)) ∧ Below v.heap.size v w')
    (HS : ∀ (t : Tm) (v : World), Below w.heap.size w v → Calls Tryd.prog 20 #[tmV t] v fun e w' => e = .returned (.tuple #[.int .i64 (secE t).1, .int .i64 (secE t).2]) ∧ Below v.heap.size v w')
    (HC : ∀ (s t : Tm) (v : World), Below w.heap.size w v → Calls Tryd.prog 22 #[tmV s, tmV t] v fun e w' => e = .returned (.int .i64 (cmpT s t)) ∧ Below v.heap.size v w') :
    Calls Tryd.prog 5 #[tmV a, tmV b] w fun e w' => e = .returned (.bool true) ∧ Below w.heap.size w w' := by
  have hr := cmpT_range a b
  have hng := cmpT_neg a b
  have H3 := HS b
  have H4 := HC a b
  have H5 := fun v => compare_any a b v
  have H6 := HC b a
  rw [hng] at H6
  rcases hoa : okT a with _ | _
  · have H1 := HS a
    have H2 := fun v => seconds_any a v
    rw [show secE a = (0, 8) by unfold secE; rw [hoa]; rfl] at H1 H2
    exact secs_no _ _ _ _ _ _ _ _ _ _ _ _ _ _ _ _ (wr_neg hr) w HA H1 H2 H3 H4 H5 H6
  · have H1 := HS a
    have H2 := fun v => seconds_any a v
    rw [show secE a = (secT a, 0) by unfold secE; rw [hoa]; rfl] at H1 H2
    have hsb := sec_bd hoa
    have H7 := fun v q => from_in hsb hoa rfl (HF (secT a) v (by omega) q)
    rcases hob : okT b with _ | _
    · rw [show secE b = (0, 8) by unfold secE; rw [hob]; rfl] at H3
      exact secs_one _ _ _ _ _ _ _ _ _ _ _ _ _ _ _ _ (wr_neg hr) w HA H1 H2 H3 H4 H5 H6 H7
    · rw [show secE b = (secT b, 0) by unfold secE; rw [hob]; rfl] at H3
      obtain ⟨o1, o2⟩ := sec_order hoa hob
      rcases hr with h | h | h
      · rw [h] at H4 H5 H6 o1 o2
        exact secs_lt _ _ _ _ _ _ _ _ _ _ _ _ _ _ (by omega) w HA H1 H2 H3 H4 H5 H6 H7
      · rw [h] at H4 H5 H6 o1 o2
        exact secs_eq _ _ _ _ _ _ _ _ _ _ _ _ _ _ (by omega) w HA H1 H2 H3 H4 H5 H6 H7
      · rw [h] at H4 H5 H6 o1 o2
        exact secs_gt _ _ _ _ _ _ _ _ _ _ _ _ _ _ (by omega) w HA H1 H2 H3 H4 H5 H6 H7
end Go.Proofs.YtneeddbonhiflaaDoor
