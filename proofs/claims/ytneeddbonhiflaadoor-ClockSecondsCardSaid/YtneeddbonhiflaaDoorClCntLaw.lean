/-
  The walk of ClockCounts over what its callees are asked to keep.
-/
import Derived.Test.YtneeddbonhiflaaDoorClFrom
namespace Go.Proofs.YtneeddbonhiflaaDoor
open Go.RowKit

/-- what FromSeconds returns out of its limits -/
theorem from_out {P : Program} {f : FuncId} {v : World} {n : Int} (hn : n < -62167219200 ∨ 253402300799 < n)
    (h : Calls P f #[.int .i64 n] v fun e w' => (∃ T k, e = .returned (.tuple #[tmV T, .int .i64 k]) ∧ ((n < -62167219200 ∨ 253402300799 < n) → T = tm0 ∧ k = 9) ∧ (-62167219200 ≤ n ∧ n ≤ 253402300799 → okT T = true ∧ secT T = n ∧ k = 0)) ∧ Below v.heap.size v w') :
    Calls P f #[.int .i64 n] v fun e w' => e = .returned (.tuple #[.agg #[.int .i64 0, .int .i64 0, .int .i64 0, .int .i64 0, .int .i64 0, .int .i64 0], .int .i64 9]) ∧ Below v.heap.size v w' :=
  h.mono fun e w' ⟨⟨T, k, he, h1, _⟩, q⟩ => by
    obtain ⟨rfl, rfl⟩ := h1 hn
    exact ⟨he, q⟩
/-- what FromSeconds returns for the seconds of a point in time -/
theorem from_in {P : Program} {f : FuncId} {v : World} {n : Int} {t : Tm} (hn : -62167219200 ≤ n ∧ n ≤ 253402300799) (ht : okT t = true) (hs : secT t = n)
    (h : Calls P f #[.int .i64 n] v fun e w' => (∃ T k, e = .returned (.tuple #[tmV T, .int .i64 k]) ∧ ((n < -62167219200 ∨ 253402300799 < n) → T = tm0 ∧ k = 9) ∧ (-62167219200 ≤ n ∧ n ≤ 253402300799 → okT T = true ∧ secT T = n ∧ k = 0)) ∧ Below v.heap.size v w') :
    Calls P f #[.int .i64 n] v fun e w' => e = .returned (.tuple #[tmV t, .int .i64 0]) ∧ Below v.heap.size v w' :=
  h.mono fun e w' ⟨⟨T, k, he, _, h1⟩, q⟩ => by
    obtain ⟨g1, g2, rfl⟩ := h1 hn
    obtain rfl : T = t := sec_inj g1 ht (by rw [g2, hs])
    exact ⟨he, q⟩


set_option maxRecDepth 100000 in
set_option maxHeartbeats 8000000 in
theorem counts_out (n : Int)  (w : World)
    (H0 : Hid (∀ v : World, Below w.heap.size w v → Calls Tryd.prog 8 #[] v fun e w' => e = .returned (.bool true) ∧ Below v.heap.size v w'))
    (H1 : Hid (∀ v : World, Below w.heap.size w v → Calls Tryd.prog 24 #[.int .i64 n] v fun e w' => e = .returned (.tuple #[.agg #[.int .i64 0, .int .i64 0, .int .i64 0, .int .i64 0, .int .i64 0, .int .i64 0], .int .i64 9]) ∧ Below v.heap.size v w'))
    (H2 : Hid (∀ v : World, Calls Tryd.prog 25 #[.int .i64 n] v fun e w' => e = .returned (.tuple #[.agg #[.int .i64 0, .int .i64 0, .int .i64 0, .int .i64 0, .int .i64 0, .int .i64 0], .int .i64 9]) ∧ Below v.heap.size v w')) :
    Calls Tryd.prog 6 #[.int .i64 n] w fun e w' => e = .returned (.bool true) ∧ Below w.heap.size w w' := by
  have Q0 := Lib.hid (Below.refl w.heap.size w)
  go_enter Tryd.func6, Tryd.ntmps6
  go_wp2_with fail
  with_reducible refine (H0.out _ Q0.out).mono ?_
  rintro e w1 ⟨rfl, q⟩
  have Q1 := Lib.hid (bthen Q0.out q)
  clear q
  go_wp2_with fail
  with_reducible refine (H1.out _ Q1.out).mono ?_
  rintro e v2 ⟨rfl, q⟩
  have P2 := Lib.hid (bthen Q1.out q)
  clear q
  obtain ⟨M1, hM1⟩ : ∃ M, v2.heap.size = M := ⟨_, rfl⟩
  go_wp2_with fail
  have Q2 := Lib.hid (bal P2.out (.cells #[.int .i64 0, .int .i64 0, .int .i64 0, .int .i64 0, .int .i64 0, .int .i64 0] 23))
  have K2 : Hid (Blk (v2.alloc (.cells #[.int .i64 0, .int .i64 0, .int .i64 0, .int .i64 0, .int .i64 0, .int .i64 0] 23)) M1 23 #[.int .i64 0, .int .i64 0, .int .i64 0, .int .i64 0, .int .i64 0, .int .i64 0]) := by rw [← hM1]; exact Blk.new _ _ _
  generalize v2.alloc (.cells #[.int .i64 0, .int .i64 0, .int .i64 0, .int .i64 0, .int .i64 0, .int .i64 0] 23) = w2 at *
  clear hM1
  with_reducible refine (H2.out _).mono ?_
  rintro e v3 ⟨rfl, q⟩
  have P3 := Lib.hid (bthen Q2.out q)
  have J3 := Lib.hid (K2.out.below q K2.out.lt)
  obtain ⟨z0, z1, z2, z3, z4, z5⟩ := J3.out.cells6
  have zl := J3.out.lt
  obtain ⟨M2, hM2⟩ : ∃ M, v3.heap.size = M := ⟨_, rfl⟩
  rw [hM2] at zl
  have Q3 := Lib.hid (bal P3.out (.cells #[.int .i64 0, .int .i64 0, .int .i64 0, .int .i64 0, .int .i64 0, .int .i64 0] 23))
  have K3 := Lib.hid (J3.out.alloc (.cells #[.int .i64 0, .int .i64 0, .int .i64 0, .int .i64 0, .int .i64 0, .int .i64 0] 23))
  clear q
  go_wp2_with fail
  go_ret
  exact ⟨rfl, Q3.out⟩

set_option maxRecDepth 100000 in
set_option maxHeartbeats 8000000 in
theorem counts_last (n : Int) (y1 m1 d1 h1 i1 s1 : Int) (hn : IntKind.i64.wrap (n + 1) = n + 1) (w : World)
    (H0 : Hid (∀ v : World, Below w.heap.size w v → Calls Tryd.prog 8 #[] v fun e w' => e = .returned (.bool true) ∧ Below v.heap.size v w'))
    (H1 : Hid (∀ v : World, Below w.heap.size w v → Calls Tryd.prog 24 #[.int .i64 n] v fun e w' => e = .returned (.tuple #[.agg #[.int .i64 y1, .int .i64 m1, .int .i64 d1, .int .i64 h1, .int .i64 i1, .int .i64 s1], .int .i64 0]) ∧ Below v.heap.size v w'))
    (H2 : Hid (∀ v : World, Calls Tryd.prog 25 #[.int .i64 n] v fun e w' => e = .returned (.tuple #[.agg #[.int .i64 y1, .int .i64 m1, .int .i64 d1, .int .i64 h1, .int .i64 i1, .int .i64 s1], .int .i64 0]) ∧ Below v.heap.size v w'))
    (H3 : Hid (∀ v : World, Below w.heap.size w v → Calls Tryd.prog 20 #[.agg #[.int .i64 y1, .int .i64 m1, .int .i64 d1, .int .i64 h1, .int .i64 i1, .int .i64 s1]] v fun e w' => e = .returned (.tuple #[.int .i64 n, .int .i64 0]) ∧ Below v.heap.size v w'))
    (H4 : Hid (∀ v : World, Below w.heap.size w v → Calls Tryd.prog 24 #[.int .i64 (n + 1)] v fun e w' => e = .returned (.tuple #[.agg #[.int .i64 0, .int .i64 0, .int .i64 0, .int .i64 0, .int .i64 0, .int .i64 0], .int .i64 9]) ∧ Below v.heap.size v w')) :
    Calls Tryd.prog 6 #[.int .i64 n] w fun e w' => e = .returned (.bool true) ∧ Below w.heap.size w w' := by
  have Q0 := Lib.hid (Below.refl w.heap.size w)
  go_enter Tryd.func6, Tryd.ntmps6
  go_wp2_with fail
  with_reducible refine (H0.out _ Q0.out).mono ?_
  rintro e w1 ⟨rfl, q⟩
  have Q1 := Lib.hid (bthen Q0.out q)
  clear q
  go_wp2_with fail
  with_reducible refine (H1.out _ Q1.out).mono ?_
  rintro e v2 ⟨rfl, q⟩
  have P2 := Lib.hid (bthen Q1.out q)
  clear q
  obtain ⟨M1, hM1⟩ : ∃ M, v2.heap.size = M := ⟨_, rfl⟩
  go_wp2_with fail
  have Q2 := Lib.hid (bal P2.out (.cells #[.int .i64 y1, .int .i64 m1, .int .i64 d1, .int .i64 h1, .int .i64 i1, .int .i64 s1] 23))
  have K2 : Hid (Blk (v2.alloc (.cells #[.int .i64 y1, .int .i64 m1, .int .i64 d1, .int .i64 h1, .int .i64 i1, .int .i64 s1] 23)) M1 23 #[.int .i64 y1, .int .i64 m1, .int .i64 d1, .int .i64 h1, .int .i64 i1, .int .i64 s1]) := by rw [← hM1]; exact Blk.new _ _ _
  generalize v2.alloc (.cells #[.int .i64 y1, .int .i64 m1, .int .i64 d1, .int .i64 h1, .int .i64 i1, .int .i64 s1] 23) = w2 at *
  clear hM1
  with_reducible refine (H2.out _).mono ?_
  rintro e v3 ⟨rfl, q⟩
  have P3 := Lib.hid (bthen Q2.out q)
  have J3 := Lib.hid (K2.out.below q K2.out.lt)
  obtain ⟨z0, z1, z2, z3, z4, z5⟩ := J3.out.cells6
  have zl := J3.out.lt
  obtain ⟨M2, hM2⟩ : ∃ M, v3.heap.size = M := ⟨_, rfl⟩
  rw [hM2] at zl
  have Q3 := Lib.hid (bal P3.out (.cells #[.int .i64 y1, .int .i64 m1, .int .i64 d1, .int .i64 h1, .int .i64 i1, .int .i64 s1] 23))
  have K3 := Lib.hid (J3.out.alloc (.cells #[.int .i64 y1, .int .i64 m1, .int .i64 d1, .int .i64 h1, .int .i64 i1, .int .i64 s1] 23))
  clear q
  go_wp2_with fail
  clear z0 z1 z2 z3 z4 z5 zl
  generalize v3.alloc (.cells #[.int .i64 y1, .int .i64 m1, .int .i64 d1, .int .i64 h1, .int .i64 i1, .int .i64 s1] 23) = w3 at *
  clear hM2
  with_reducible refine (H3.out _ Q3.out).mono ?_
  rintro e w4 ⟨rfl, q⟩
  have Q4 := Lib.hid (bthen Q3.out q)
  have K4 := Lib.hid (K3.out.below q K3.out.lt)
  clear q
  go_wp2_with fail
  with_reducible refine (H4.out _ Q4.out).mono ?_
  rintro e v5 ⟨rfl, q⟩
  have P5 := Lib.hid (bthen Q4.out q)
  have J5 := Lib.hid (K4.out.below q K4.out.lt)
  obtain ⟨z0, z1, z2, z3, z4, z5⟩ := J5.out.cells6
  have zl := J5.out.lt
  have Q5 := Lib.hid (bal P5.out (.cells #[.int .i64 0, .int .i64 0, .int .i64 0, .int .i64 0, .int .i64 0, .int .i64 0] 23))
  clear q
  obtain ⟨M3, hM3⟩ : ∃ M, v5.heap.size = M := ⟨_, rfl⟩
  rw [hM3] at zl
  go_wp2_with fail
  go_ret
  exact ⟨rfl, Q5.out⟩

set_option maxRecDepth 100000 in
set_option maxHeartbeats 8000000 in
theorem counts_in (n : Int) (y1 m1 d1 h1 i1 s1 y2 m2 d2 h2 i2 s2 : Int) (hn : IntKind.i64.wrap (n + 1) = n + 1) (w : World)
    (H0 : Hid (∀ v : World, Below w.heap.size w v → Calls Tryd.prog 8 #[] v fun e w' => e = .returned (.bool true) ∧ Below v.heap.size v w'))
    (H1 : Hid (∀ v : World, Below w.heap.size w v → Calls Tryd.prog 24 #[.int .i64 n] v fun e w' => e = .returned (.tuple #[.agg #[.int .i64 y1, .int .i64 m1, .int .i64 d1, .int .i64 h1, .int .i64 i1, .int .i64 s1], .int .i64 0]) ∧ Below v.heap.size v w'))
    (H2 : Hid (∀ v : World, Calls Tryd.prog 25 #[.int .i64 n] v fun e w' => e = .returned (.tuple #[.agg #[.int .i64 y1, .int .i64 m1, .int .i64 d1, .int .i64 h1, .int .i64 i1, .int .i64 s1], .int .i64 0]) ∧ Below v.heap.size v w'))
    (H3 : Hid (∀ v : World, Below w.heap.size w v → Calls Tryd.prog 20 #[.agg #[.int .i64 y1, .int .i64 m1, .int .i64 d1, .int .i64 h1, .int .i64 i1, .int .i64 s1]] v fun e w' => e = .returned (.tuple #[.int .i64 n, .int .i64 0]) ∧ Below v.heap.size v w'))
    (H4 : Hid (∀ v : World, Below w.heap.size w v → Calls Tryd.prog 24 #[.int .i64 (n + 1)] v fun e w' => e = .returned (.tuple #[.agg #[.int .i64 y2, .int .i64 m2, .int .i64 d2, .int .i64 h2, .int .i64 i2, .int .i64 s2], .int .i64 0]) ∧ Below v.heap.size v w'))
    (H5 : Hid (∀ v : World, Below w.heap.size w v → Calls Tryd.prog 22 #[.agg #[.int .i64 y1, .int .i64 m1, .int .i64 d1, .int .i64 h1, .int .i64 i1, .int .i64 s1], .agg #[.int .i64 y2, .int .i64 m2, .int .i64 d2, .int .i64 h2, .int .i64 i2, .int .i64 s2]] v fun e w' => e = .returned (.int .i64 (-1)) ∧ Below v.heap.size v w')) :
    Calls Tryd.prog 6 #[.int .i64 n] w fun e w' => e = .returned (.bool true) ∧ Below w.heap.size w w' := by
  have Q0 := Lib.hid (Below.refl w.heap.size w)
  go_enter Tryd.func6, Tryd.ntmps6
  go_wp2_with fail
  with_reducible refine (H0.out _ Q0.out).mono ?_
  rintro e w1 ⟨rfl, q⟩
  have Q1 := Lib.hid (bthen Q0.out q)
  clear q
  go_wp2_with fail
  with_reducible refine (H1.out _ Q1.out).mono ?_
  rintro e v2 ⟨rfl, q⟩
  have P2 := Lib.hid (bthen Q1.out q)
  clear q
  obtain ⟨M1, hM1⟩ : ∃ M, v2.heap.size = M := ⟨_, rfl⟩
  go_wp2_with fail
  have Q2 := Lib.hid (bal P2.out (.cells #[.int .i64 y1, .int .i64 m1, .int .i64 d1, .int .i64 h1, .int .i64 i1, .int .i64 s1] 23))
  have K2 : Hid (Blk (v2.alloc (.cells #[.int .i64 y1, .int .i64 m1, .int .i64 d1, .int .i64 h1, .int .i64 i1, .int .i64 s1] 23)) M1 23 #[.int .i64 y1, .int .i64 m1, .int .i64 d1, .int .i64 h1, .int .i64 i1, .int .i64 s1]) := by rw [← hM1]; exact Blk.new _ _ _
  generalize v2.alloc (.cells #[.int .i64 y1, .int .i64 m1, .int .i64 d1, .int .i64 h1, .int .i64 i1, .int .i64 s1] 23) = w2 at *
  clear hM1
  with_reducible refine (H2.out _).mono ?_
  rintro e v3 ⟨rfl, q⟩
  have P3 := Lib.hid (bthen Q2.out q)
  have J3 := Lib.hid (K2.out.below q K2.out.lt)
  obtain ⟨z0, z1, z2, z3, z4, z5⟩ := J3.out.cells6
  have zl := J3.out.lt
  obtain ⟨M2, hM2⟩ : ∃ M, v3.heap.size = M := ⟨_, rfl⟩
  rw [hM2] at zl
  have Q3 := Lib.hid (bal P3.out (.cells #[.int .i64 y1, .int .i64 m1, .int .i64 d1, .int .i64 h1, .int .i64 i1, .int .i64 s1] 23))
  have K3 := Lib.hid (J3.out.alloc (.cells #[.int .i64 y1, .int .i64 m1, .int .i64 d1, .int .i64 h1, .int .i64 i1, .int .i64 s1] 23))
  clear q
  go_wp2_with fail
  clear z0 z1 z2 z3 z4 z5 zl
  generalize v3.alloc (.cells #[.int .i64 y1, .int .i64 m1, .int .i64 d1, .int .i64 h1, .int .i64 i1, .int .i64 s1] 23) = w3 at *
  clear hM2
  with_reducible refine (H3.out _ Q3.out).mono ?_
  rintro e w4 ⟨rfl, q⟩
  have Q4 := Lib.hid (bthen Q3.out q)
  have K4 := Lib.hid (K3.out.below q K3.out.lt)
  clear q
  go_wp2_with fail
  with_reducible refine (H4.out _ Q4.out).mono ?_
  rintro e v5 ⟨rfl, q⟩
  have P5 := Lib.hid (bthen Q4.out q)
  have J5 := Lib.hid (K4.out.below q K4.out.lt)
  obtain ⟨z0, z1, z2, z3, z4, z5⟩ := J5.out.cells6
  have zl := J5.out.lt
  have Q5 := Lib.hid (bal P5.out (.cells #[.int .i64 y2, .int .i64 m2, .int .i64 d2, .int .i64 h2, .int .i64 i2, .int .i64 s2] 23))
  clear q
  obtain ⟨M3, hM3⟩ : ∃ M, v5.heap.size = M := ⟨_, rfl⟩
  rw [hM3] at zl
  go_wp2_with fail
  with_reducible refine (H5.out _ Q5.out).mono ?_
  rintro e w6 ⟨rfl, q⟩
  have Q6 := Lib.hid (bthen Q5.out q)
  clear q
  go_wp2_with fail
  go_ret
  exact ⟨rfl, Q6.out⟩
end Go.Proofs.YtneeddbonhiflaaDoor
