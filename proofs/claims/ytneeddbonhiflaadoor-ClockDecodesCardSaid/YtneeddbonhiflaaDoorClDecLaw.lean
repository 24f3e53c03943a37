/-
  The walk of ClockDecodes over what its callees are asked to keep.
-/
import Derived.Test.YtneeddbonhiflaaDoorClDec
namespace Go.Proofs.YtneeddbonhiflaaDoor
open Go.RowKit

theorem decU_cases (l : List UInt8) : (decU l).2 = 6 ∨ ((decU l).2 = 0 ∧ (utcE (decU l).1).2 = 0 ∧ eqB (utcE (decU l).1).1 l = true) := by
  unfold decU
  split
  · rename_i h; exact .inr ⟨rfl, h.1, h.2⟩
  · exact .inl rfl
theorem decG_cases (l : List UInt8) : (decG l).2 = 6 ∨ ((decG l).2 = 0 ∧ (genE (decG l).1).2 = 0 ∧ eqB (genE (decG l).1).1 l = true) := by
  unfold decG
  split
  · rename_i h; exact .inr ⟨rfl, h.1, h.2⟩
  · exact .inl rfl

set_option maxRecDepth 100000 in
set_option maxHeartbeats 16000000 in
theorem decodes_walk {w : World} {a : Option Addr} {n c : Nat} {l : List UInt8} (hx : Bs w a n c l)
    (HA : ∀ v : World, Below w.heap.size w v → Calls Tryd.prog 8 #[] v fun e w' => e = .returned (.bool true) ∧ Below v.heap.size v w')
    (HDU : ∀ (v : World), Bs v a n c l → Below w.heap.size w v → Calls Tryd.prog 16 #[.slice a n c] v fun e w' => e = .returned (.tuple #[tmV (decU l).1, .int .i64 (decU l).2]) ∧ Below v.heap.size v w')
    (HDG : ∀ (v : World), Bs v a n c l → Below w.heap.size w v → Calls Tryd.prog 17 #[.slice a n c] v fun e w' => e = .returned (.tuple #[tmV (decG l).1, .int .i64 (decG l).2]) ∧ Below v.heap.size v w')
    (HEU : ∀ (t : Tm) (v : World), Below w.heap.size w v → Calls Tryd.prog 9 #[tmV t] v fun e w' => ∃ a c, e = .returned (.tuple #[.slice a (utcE t).1.length c, .int .i64 (utcE t).2]) ∧ Bs w' a (utcE t).1.length c (utcE t).1 ∧ Below v.heap.size v w')
    (HEG : ∀ (t : Tm) (v : World), Below w.heap.size w v → Calls Tryd.prog 11 #[tmV t] v fun e w' => ∃ a c, e = .returned (.tuple #[.slice a (genE t).1.length c, .int .i64 (genE t).2]) ∧ Bs w' a (genE t).1.length c (genE t).1 ∧ Below v.heap.size v w') :
    Calls Tryd.prog 4 #[.slice a n c] w fun e w' => e = .returned (.bool true) ∧ Below w.heap.size w w' := by
  have X0 := Lib.hid hx
  have hcm := hx.2.2.1
  have hnc := hx.2.1
  unfold maxLen at hcm
  have hnm : (n : Int) ≤ 9223372036854775807 := by omega
  have H0 := Lib.hid HA
  have H1 := Lib.hid HDU
  have H2 := Lib.hid (fun v (h : Bs v a n c l) => decU_any h)
  have H3 := Lib.hid HDG
  have H4 := Lib.hid (fun v (h : Bs v a n c l) => decG_any h)
  have H5 := Lib.hid (HEU (decU l).1)
  have H6 := Lib.hid (HEG (decG l).1)
  have H7 := Lib.hid (fun v a' c' (hb : Bs v a' (utcE (decU l).1).1.length c' (utcE (decU l).1).1) (hl : Bs v a n c l) => bytes_any hb hl)
  have H8 := Lib.hid (fun v a' c' (hb : Bs v a' (genE (decG l).1).1.length c' (genE (decG l).1).1) (hl : Bs v a n c l) => bytes_any hb hl)
  have hU := decU_cases l
  have hG := decG_cases l
  clear hx HA HDU HDG HEU HEG hnc hcm
  generalize (utcE (decU l).1).2 = e1 at *
  generalize (genE (decG l).1).2 = e2 at *
  generalize eqB (utcE (decU l).1).1 l = b1 at *
  generalize eqB (genE (decG l).1).1 l = b2 at *
  generalize (utcE (decU l).1).1 = L1 at *
  generalize (genE (decG l).1).1 = L2 at *
  generalize (decU l).2 = k1 at *
  generalize (decG l).2 = k2 at *
  generalize (decU l).1 = T1 at *
  generalize (decG l).1 = T2 at *
  obtain ⟨y1, m1, d1, h1, i1, s1⟩ := T1
  obtain ⟨y2, m2, d2, h2, i2, s2⟩ := T2
  unfold tmV at H1 H2 H3 H4 H5 H6
  dsimp only at H1 H2 H3 H4 H5 H6
  obtain ⟨n1, hn1⟩ : ∃ n1, L1.length = n1 := ⟨_, rfl⟩
  obtain ⟨n2, hn2⟩ : ∃ n2, L2.length = n2 := ⟨_, rfl⟩
  rw [hn1] at H5 H7
  rw [hn2] at H6 H8
  clear hn1 hn2
  have Q0 := Lib.hid (Below.refl w.heap.size w)
  by_cases hbig : 200 < n
  · have hb : (200 : Int) < n := by omega
    go_enter Tryd.func4, Tryd.ntmps4
    go_wp2_with fail
    with_reducible refine (H0.out _ Q0.out).mono ?_
    rintro e w1 ⟨rfl, q⟩
    have Q1 := Lib.hid (bthen Q0.out q)
    clear q
    go_wp2_with fail
    with_reducible refine (H0.out _ Q1.out).mono ?_
    rintro e w2 ⟨rfl, q⟩
    have Q2 := Lib.hid (bthen Q1.out q)
    clear q
    go_wp2_with fail
    go_ret
    exact ⟨rfl, Q2.out⟩
  have hb : ¬ (200 : Int) < n := by omega
  rcases hU with rfl | ⟨rfl, rfl, rfl⟩
  · rcases hG with rfl | ⟨rfl, rfl, rfl⟩
    · go_enter Tryd.func4, Tryd.ntmps4
      go_wp2_with fail
      with_reducible refine (H0.out _ Q0.out).mono ?_
      rintro e w1 ⟨rfl, q⟩
      have Q1 := Lib.hid (bthen Q0.out q)
      have X1 := Lib.hid (X0.out.below q)
      clear q
      go_wp2_with fail
      with_reducible refine (H1.out _ X1.out Q1.out).mono ?_
      rintro e v2 ⟨rfl, q⟩
      have P2 := Lib.hid (bthen Q1.out q)
      have Y2 := Lib.hid (X1.out.below q)
      clear q
      obtain ⟨M1, hM1⟩ : ∃ M, v2.heap.size = M := ⟨_, rfl⟩
      go_wp2_with fail
      have Q2 := Lib.hid (bal P2.out (.cells #[.int .i64 y1, .int .i64 m1, .int .i64 d1, .int .i64 h1, .int .i64 i1, .int .i64 s1] 23))
      have X2 := Lib.hid (Y2.out.alloc (.cells #[.int .i64 y1, .int .i64 m1, .int .i64 d1, .int .i64 h1, .int .i64 i1, .int .i64 s1] 23))
      have Kb12 : Hid (Blk (v2.alloc (.cells #[.int .i64 y1, .int .i64 m1, .int .i64 d1, .int .i64 h1, .int .i64 i1, .int .i64 s1] 23)) M1 23 #[.int .i64 y1, .int .i64 m1, .int .i64 d1, .int .i64 h1, .int .i64 i1, .int .i64 s1]) := by rw [← hM1]; exact Blk.new _ _ _
      generalize v2.alloc (.cells #[.int .i64 y1, .int .i64 m1, .int .i64 d1, .int .i64 h1, .int .i64 i1, .int .i64 s1] 23) = w2 at *
      clear hM1
      with_reducible refine (H2.out _ X2.out).mono ?_
      rintro e v3 ⟨rfl, q⟩
      have P3 := Lib.hid (bthen Q2.out q)
      have Y3 := Lib.hid (X2.out.below q)
      have Jb13 := Lib.hid (Kb12.out.below q Kb12.out.lt)
      clear q
      obtain ⟨M2, hM2⟩ : ∃ M, v3.heap.size = M := ⟨_, rfl⟩
      go_wp2_with fail
      have Q3 := Lib.hid (bal P3.out (.cells #[.int .i64 y1, .int .i64 m1, .int .i64 d1, .int .i64 h1, .int .i64 i1, .int .i64 s1] 23))
      have X3 := Lib.hid (Y3.out.alloc (.cells #[.int .i64 y1, .int .i64 m1, .int .i64 d1, .int .i64 h1, .int .i64 i1, .int .i64 s1] 23))
      have Kb13 := Lib.hid (Jb13.out.alloc (.cells #[.int .i64 y1, .int .i64 m1, .int .i64 d1, .int .i64 h1, .int .i64 i1, .int .i64 s1] 23))
      have Kb23 : Hid (Blk (v3.alloc (.cells #[.int .i64 y1, .int .i64 m1, .int .i64 d1, .int .i64 h1, .int .i64 i1, .int .i64 s1] 23)) M2 23 #[.int .i64 y1, .int .i64 m1, .int .i64 d1, .int .i64 h1, .int .i64 i1, .int .i64 s1]) := by rw [← hM2]; exact Blk.new _ _ _
      generalize v3.alloc (.cells #[.int .i64 y1, .int .i64 m1, .int .i64 d1, .int .i64 h1, .int .i64 i1, .int .i64 s1] 23) = w3 at *
      clear hM2
      with_reducible refine (H3.out _ X3.out Q3.out).mono ?_
      rintro e v4 ⟨rfl, q⟩
      have P4 := Lib.hid (bthen Q3.out q)
      have Y4 := Lib.hid (X3.out.below q)
      have Jb14 := Lib.hid (Kb13.out.below q Kb13.out.lt)
      have Jb24 := Lib.hid (Kb23.out.below q Kb23.out.lt)
      clear q
      obtain ⟨M3, hM3⟩ : ∃ M, v4.heap.size = M := ⟨_, rfl⟩
      go_wp2_with fail
      have Q4 := Lib.hid (bal P4.out (.cells #[.int .i64 y2, .int .i64 m2, .int .i64 d2, .int .i64 h2, .int .i64 i2, .int .i64 s2] 23))
      have X4 := Lib.hid (Y4.out.alloc (.cells #[.int .i64 y2, .int .i64 m2, .int .i64 d2, .int .i64 h2, .int .i64 i2, .int .i64 s2] 23))
      have Kb14 := Lib.hid (Jb14.out.alloc (.cells #[.int .i64 y2, .int .i64 m2, .int .i64 d2, .int .i64 h2, .int .i64 i2, .int .i64 s2] 23))
      have Kb24 := Lib.hid (Jb24.out.alloc (.cells #[.int .i64 y2, .int .i64 m2, .int .i64 d2, .int .i64 h2, .int .i64 i2, .int .i64 s2] 23))
      have Kb34 : Hid (Blk (v4.alloc (.cells #[.int .i64 y2, .int .i64 m2, .int .i64 d2, .int .i64 h2, .int .i64 i2, .int .i64 s2] 23)) M3 23 #[.int .i64 y2, .int .i64 m2, .int .i64 d2, .int .i64 h2, .int .i64 i2, .int .i64 s2]) := by rw [← hM3]; exact Blk.new _ _ _
      generalize v4.alloc (.cells #[.int .i64 y2, .int .i64 m2, .int .i64 d2, .int .i64 h2, .int .i64 i2, .int .i64 s2] 23) = w4 at *
      clear hM3
      with_reducible refine (H4.out _ X4.out).mono ?_
      rintro e v5 ⟨rfl, q⟩
      have P5 := Lib.hid (bthen Q4.out q)
      have Y5 := Lib.hid (X4.out.below q)
      have Jb15 := Lib.hid (Kb14.out.below q Kb14.out.lt)
      have Jb25 := Lib.hid (Kb24.out.below q Kb24.out.lt)
      have Jb35 := Lib.hid (Kb34.out.below q Kb34.out.lt)
      obtain ⟨cb1_0, cb1_1, cb1_2, cb1_3, cb1_4, cb1_5⟩ := Jb15.out.cells6
      have lb1 := Jb15.out.lt
      obtain ⟨cb2_0, cb2_1, cb2_2, cb2_3, cb2_4, cb2_5⟩ := Jb25.out.cells6
      have lb2 := Jb25.out.lt
      obtain ⟨cb3_0, cb3_1, cb3_2, cb3_3, cb3_4, cb3_5⟩ := Jb35.out.cells6
      have lb3 := Jb35.out.lt
      clear q
      obtain ⟨M4, hM4⟩ : ∃ M, v5.heap.size = M := ⟨_, rfl⟩
      rw [hM4] at lb1 lb2 lb3
      go_wp2_with fail
      have Q5 := Lib.hid (bal P5.out (.cells #[.int .i64 y2, .int .i64 m2, .int .i64 d2, .int .i64 h2, .int .i64 i2, .int .i64 s2] 23))
      have X5 := Lib.hid (Y5.out.alloc (.cells #[.int .i64 y2, .int .i64 m2, .int .i64 d2, .int .i64 h2, .int .i64 i2, .int .i64 s2] 23))
      have Kb15 := Lib.hid (Jb15.out.alloc (.cells #[.int .i64 y2, .int .i64 m2, .int .i64 d2, .int .i64 h2, .int .i64 i2, .int .i64 s2] 23))
      have Kb25 := Lib.hid (Jb25.out.alloc (.cells #[.int .i64 y2, .int .i64 m2, .int .i64 d2, .int .i64 h2, .int .i64 i2, .int .i64 s2] 23))
      have Kb35 := Lib.hid (Jb35.out.alloc (.cells #[.int .i64 y2, .int .i64 m2, .int .i64 d2, .int .i64 h2, .int .i64 i2, .int .i64 s2] 23))
      have Kb45 : Hid (Blk (v5.alloc (.cells #[.int .i64 y2, .int .i64 m2, .int .i64 d2, .int .i64 h2, .int .i64 i2, .int .i64 s2] 23)) M4 23 #[.int .i64 y2, .int .i64 m2, .int .i64 d2, .int .i64 h2, .int .i64 i2, .int .i64 s2]) := by rw [← hM4]; exact Blk.new _ _ _
      have K3 := Kb35
      generalize v5.alloc (.cells #[.int .i64 y2, .int .i64 m2, .int .i64 d2, .int .i64 h2, .int .i64 i2, .int .i64 s2] 23) = w5 at *
      clear hM4
      with_reducible refine (H5.out _ Q5.out).mono ?_
      rintro e w8 ⟨a8, c8, rfl, b, q⟩
      have Q8 := Lib.hid (bthen Q5.out q)
      have X8 := Lib.hid (X5.out.below q)
      have Z8 := Lib.hid (K3.out.below q K3.out.lt)
      have B8 := Lib.hid b
      clear q b lb1 lb2 lb3 cb1_0 cb1_1 cb1_2 cb1_3 cb1_4 cb1_5 cb2_0 cb2_1 cb2_2 cb2_3 cb2_4 cb2_5 cb3_0 cb3_1 cb3_2 cb3_3 cb3_4 cb3_5
      obtain ⟨z0, z1, z2, z3, z4, z5⟩ := Z8.out.cells6
      have zl := Z8.out.lt
      go_wp2_with fail
      with_reducible refine (H6.out _ Q8.out).mono ?_
      rintro e w9 ⟨a9, c9, rfl, b, q⟩
      have Q9 := Lib.hid (bthen Q8.out q)
      have X9 := Lib.hid (X8.out.below q)
      have B9 := Lib.hid (B8.out.below q)
      have D9 := Lib.hid b
      clear q b
      go_wp2_with fail
      go_ret
      exact ⟨rfl, Q9.out⟩
    · go_enter Tryd.func4, Tryd.ntmps4
      go_wp2_with fail
      with_reducible refine (H0.out _ Q0.out).mono ?_
      rintro e w1 ⟨rfl, q⟩
      have Q1 := Lib.hid (bthen Q0.out q)
      have X1 := Lib.hid (X0.out.below q)
      clear q
      go_wp2_with fail
      with_reducible refine (H1.out _ X1.out Q1.out).mono ?_
      rintro e v2 ⟨rfl, q⟩
      have P2 := Lib.hid (bthen Q1.out q)
      have Y2 := Lib.hid (X1.out.below q)
      clear q
      obtain ⟨M1, hM1⟩ : ∃ M, v2.heap.size = M := ⟨_, rfl⟩
      go_wp2_with fail
      have Q2 := Lib.hid (bal P2.out (.cells #[.int .i64 y1, .int .i64 m1, .int .i64 d1, .int .i64 h1, .int .i64 i1, .int .i64 s1] 23))
      have X2 := Lib.hid (Y2.out.alloc (.cells #[.int .i64 y1, .int .i64 m1, .int .i64 d1, .int .i64 h1, .int .i64 i1, .int .i64 s1] 23))
      have Kb12 : Hid (Blk (v2.alloc (.cells #[.int .i64 y1, .int .i64 m1, .int .i64 d1, .int .i64 h1, .int .i64 i1, .int .i64 s1] 23)) M1 23 #[.int .i64 y1, .int .i64 m1, .int .i64 d1, .int .i64 h1, .int .i64 i1, .int .i64 s1]) := by rw [← hM1]; exact Blk.new _ _ _
      generalize v2.alloc (.cells #[.int .i64 y1, .int .i64 m1, .int .i64 d1, .int .i64 h1, .int .i64 i1, .int .i64 s1] 23) = w2 at *
      clear hM1
      with_reducible refine (H2.out _ X2.out).mono ?_
      rintro e v3 ⟨rfl, q⟩
      have P3 := Lib.hid (bthen Q2.out q)
      have Y3 := Lib.hid (X2.out.below q)
      have Jb13 := Lib.hid (Kb12.out.below q Kb12.out.lt)
      clear q
      obtain ⟨M2, hM2⟩ : ∃ M, v3.heap.size = M := ⟨_, rfl⟩
      go_wp2_with fail
      have Q3 := Lib.hid (bal P3.out (.cells #[.int .i64 y1, .int .i64 m1, .int .i64 d1, .int .i64 h1, .int .i64 i1, .int .i64 s1] 23))
      have X3 := Lib.hid (Y3.out.alloc (.cells #[.int .i64 y1, .int .i64 m1, .int .i64 d1, .int .i64 h1, .int .i64 i1, .int .i64 s1] 23))
      have Kb13 := Lib.hid (Jb13.out.alloc (.cells #[.int .i64 y1, .int .i64 m1, .int .i64 d1, .int .i64 h1, .int .i64 i1, .int .i64 s1] 23))
      have Kb23 : Hid (Blk (v3.alloc (.cells #[.int .i64 y1, .int .i64 m1, .int .i64 d1, .int .i64 h1, .int .i64 i1, .int .i64 s1] 23)) M2 23 #[.int .i64 y1, .int .i64 m1, .int .i64 d1, .int .i64 h1, .int .i64 i1, .int .i64 s1]) := by rw [← hM2]; exact Blk.new _ _ _
      generalize v3.alloc (.cells #[.int .i64 y1, .int .i64 m1, .int .i64 d1, .int .i64 h1, .int .i64 i1, .int .i64 s1] 23) = w3 at *
      clear hM2
      with_reducible refine (H3.out _ X3.out Q3.out).mono ?_
      rintro e v4 ⟨rfl, q⟩
      have P4 := Lib.hid (bthen Q3.out q)
      have Y4 := Lib.hid (X3.out.below q)
      have Jb14 := Lib.hid (Kb13.out.below q Kb13.out.lt)
      have Jb24 := Lib.hid (Kb23.out.below q Kb23.out.lt)
      clear q
      obtain ⟨M3, hM3⟩ : ∃ M, v4.heap.size = M := ⟨_, rfl⟩
      go_wp2_with fail
      have Q4 := Lib.hid (bal P4.out (.cells #[.int .i64 y2, .int .i64 m2, .int .i64 d2, .int .i64 h2, .int .i64 i2, .int .i64 s2] 23))
      have X4 := Lib.hid (Y4.out.alloc (.cells #[.int .i64 y2, .int .i64 m2, .int .i64 d2, .int .i64 h2, .int .i64 i2, .int .i64 s2] 23))
      have Kb14 := Lib.hid (Jb14.out.alloc (.cells #[.int .i64 y2, .int .i64 m2, .int .i64 d2, .int .i64 h2, .int .i64 i2, .int .i64 s2] 23))
      have Kb24 := Lib.hid (Jb24.out.alloc (.cells #[.int .i64 y2, .int .i64 m2, .int .i64 d2, .int .i64 h2, .int .i64 i2, .int .i64 s2] 23))
      have Kb34 : Hid (Blk (v4.alloc (.cells #[.int .i64 y2, .int .i64 m2, .int .i64 d2, .int .i64 h2, .int .i64 i2, .int .i64 s2] 23)) M3 23 #[.int .i64 y2, .int .i64 m2, .int .i64 d2, .int .i64 h2, .int .i64 i2, .int .i64 s2]) := by rw [← hM3]; exact Blk.new _ _ _
      generalize v4.alloc (.cells #[.int .i64 y2, .int .i64 m2, .int .i64 d2, .int .i64 h2, .int .i64 i2, .int .i64 s2] 23) = w4 at *
      clear hM3
      with_reducible refine (H4.out _ X4.out).mono ?_
      rintro e v5 ⟨rfl, q⟩
      have P5 := Lib.hid (bthen Q4.out q)
      have Y5 := Lib.hid (X4.out.below q)
      have Jb15 := Lib.hid (Kb14.out.below q Kb14.out.lt)
      have Jb25 := Lib.hid (Kb24.out.below q Kb24.out.lt)
      have Jb35 := Lib.hid (Kb34.out.below q Kb34.out.lt)
      obtain ⟨cb1_0, cb1_1, cb1_2, cb1_3, cb1_4, cb1_5⟩ := Jb15.out.cells6
      have lb1 := Jb15.out.lt
      obtain ⟨cb2_0, cb2_1, cb2_2, cb2_3, cb2_4, cb2_5⟩ := Jb25.out.cells6
      have lb2 := Jb25.out.lt
      obtain ⟨cb3_0, cb3_1, cb3_2, cb3_3, cb3_4, cb3_5⟩ := Jb35.out.cells6
      have lb3 := Jb35.out.lt
      clear q
      obtain ⟨M4, hM4⟩ : ∃ M, v5.heap.size = M := ⟨_, rfl⟩
      rw [hM4] at lb1 lb2 lb3
      go_wp2_with fail
      have Q5 := Lib.hid (bal P5.out (.cells #[.int .i64 y2, .int .i64 m2, .int .i64 d2, .int .i64 h2, .int .i64 i2, .int .i64 s2] 23))
      have X5 := Lib.hid (Y5.out.alloc (.cells #[.int .i64 y2, .int .i64 m2, .int .i64 d2, .int .i64 h2, .int .i64 i2, .int .i64 s2] 23))
      have Kb15 := Lib.hid (Jb15.out.alloc (.cells #[.int .i64 y2, .int .i64 m2, .int .i64 d2, .int .i64 h2, .int .i64 i2, .int .i64 s2] 23))
      have Kb25 := Lib.hid (Jb25.out.alloc (.cells #[.int .i64 y2, .int .i64 m2, .int .i64 d2, .int .i64 h2, .int .i64 i2, .int .i64 s2] 23))
      have Kb35 := Lib.hid (Jb35.out.alloc (.cells #[.int .i64 y2, .int .i64 m2, .int .i64 d2, .int .i64 h2, .int .i64 i2, .int .i64 s2] 23))
      have Kb45 : Hid (Blk (v5.alloc (.cells #[.int .i64 y2, .int .i64 m2, .int .i64 d2, .int .i64 h2, .int .i64 i2, .int .i64 s2] 23)) M4 23 #[.int .i64 y2, .int .i64 m2, .int .i64 d2, .int .i64 h2, .int .i64 i2, .int .i64 s2]) := by rw [← hM4]; exact Blk.new _ _ _
      have K3 := Kb35
      generalize v5.alloc (.cells #[.int .i64 y2, .int .i64 m2, .int .i64 d2, .int .i64 h2, .int .i64 i2, .int .i64 s2] 23) = w5 at *
      clear hM4
      with_reducible refine (H5.out _ Q5.out).mono ?_
      rintro e w8 ⟨a8, c8, rfl, b, q⟩
      have Q8 := Lib.hid (bthen Q5.out q)
      have X8 := Lib.hid (X5.out.below q)
      have Z8 := Lib.hid (K3.out.below q K3.out.lt)
      have B8 := Lib.hid b
      clear q b lb1 lb2 lb3 cb1_0 cb1_1 cb1_2 cb1_3 cb1_4 cb1_5 cb2_0 cb2_1 cb2_2 cb2_3 cb2_4 cb2_5 cb3_0 cb3_1 cb3_2 cb3_3 cb3_4 cb3_5
      obtain ⟨z0, z1, z2, z3, z4, z5⟩ := Z8.out.cells6
      have zl := Z8.out.lt
      go_wp2_with fail
      with_reducible refine (H6.out _ Q8.out).mono ?_
      rintro e w9 ⟨a9, c9, rfl, b, q⟩
      have Q9 := Lib.hid (bthen Q8.out q)
      have X9 := Lib.hid (X8.out.below q)
      have B9 := Lib.hid (B8.out.below q)
      have D9 := Lib.hid b
      clear q b
      go_wp2_with fail
      with_reducible refine (H8.out _ _ _ D9.out X9.out).mono ?_
      rintro e w9 ⟨rfl, rfl⟩
      go_wp2_with fail
      go_ret
      exact ⟨rfl, Q9.out⟩
  · rcases hG with rfl | ⟨rfl, rfl, rfl⟩
    · go_enter Tryd.func4, Tryd.ntmps4
      go_wp2_with fail
      with_reducible refine (H0.out _ Q0.out).mono ?_
      rintro e w1 ⟨rfl, q⟩
      have Q1 := Lib.hid (bthen Q0.out q)
      have X1 := Lib.hid (X0.out.below q)
      clear q
      go_wp2_with fail
      with_reducible refine (H1.out _ X1.out Q1.out).mono ?_
      rintro e v2 ⟨rfl, q⟩
      have P2 := Lib.hid (bthen Q1.out q)
      have Y2 := Lib.hid (X1.out.below q)
      clear q
      obtain ⟨M1, hM1⟩ : ∃ M, v2.heap.size = M := ⟨_, rfl⟩
      go_wp2_with fail
      have Q2 := Lib.hid (bal P2.out (.cells #[.int .i64 y1, .int .i64 m1, .int .i64 d1, .int .i64 h1, .int .i64 i1, .int .i64 s1] 23))
      have X2 := Lib.hid (Y2.out.alloc (.cells #[.int .i64 y1, .int .i64 m1, .int .i64 d1, .int .i64 h1, .int .i64 i1, .int .i64 s1] 23))
      have Kb12 : Hid (Blk (v2.alloc (.cells #[.int .i64 y1, .int .i64 m1, .int .i64 d1, .int .i64 h1, .int .i64 i1, .int .i64 s1] 23)) M1 23 #[.int .i64 y1, .int .i64 m1, .int .i64 d1, .int .i64 h1, .int .i64 i1, .int .i64 s1]) := by rw [← hM1]; exact Blk.new _ _ _
      generalize v2.alloc (.cells #[.int .i64 y1, .int .i64 m1, .int .i64 d1, .int .i64 h1, .int .i64 i1, .int .i64 s1] 23) = w2 at *
      clear hM1
      with_reducible refine (H2.out _ X2.out).mono ?_
      rintro e v3 ⟨rfl, q⟩
      have P3 := Lib.hid (bthen Q2.out q)
      have Y3 := Lib.hid (X2.out.below q)
      have Jb13 := Lib.hid (Kb12.out.below q Kb12.out.lt)
      clear q
      obtain ⟨M2, hM2⟩ : ∃ M, v3.heap.size = M := ⟨_, rfl⟩
      go_wp2_with fail
      have Q3 := Lib.hid (bal P3.out (.cells #[.int .i64 y1, .int .i64 m1, .int .i64 d1, .int .i64 h1, .int .i64 i1, .int .i64 s1] 23))
      have X3 := Lib.hid (Y3.out.alloc (.cells #[.int .i64 y1, .int .i64 m1, .int .i64 d1, .int .i64 h1, .int .i64 i1, .int .i64 s1] 23))
      have Kb13 := Lib.hid (Jb13.out.alloc (.cells #[.int .i64 y1, .int .i64 m1, .int .i64 d1, .int .i64 h1, .int .i64 i1, .int .i64 s1] 23))
      have Kb23 : Hid (Blk (v3.alloc (.cells #[.int .i64 y1, .int .i64 m1, .int .i64 d1, .int .i64 h1, .int .i64 i1, .int .i64 s1] 23)) M2 23 #[.int .i64 y1, .int .i64 m1, .int .i64 d1, .int .i64 h1, .int .i64 i1, .int .i64 s1]) := by rw [← hM2]; exact Blk.new _ _ _
      generalize v3.alloc (.cells #[.int .i64 y1, .int .i64 m1, .int .i64 d1, .int .i64 h1, .int .i64 i1, .int .i64 s1] 23) = w3 at *
      clear hM2
      with_reducible refine (H3.out _ X3.out Q3.out).mono ?_
      rintro e v4 ⟨rfl, q⟩
      have P4 := Lib.hid (bthen Q3.out q)
      have Y4 := Lib.hid (X3.out.below q)
      have Jb14 := Lib.hid (Kb13.out.below q Kb13.out.lt)
      have Jb24 := Lib.hid (Kb23.out.below q Kb23.out.lt)
      clear q
      obtain ⟨M3, hM3⟩ : ∃ M, v4.heap.size = M := ⟨_, rfl⟩
      go_wp2_with fail
      have Q4 := Lib.hid (bal P4.out (.cells #[.int .i64 y2, .int .i64 m2, .int .i64 d2, .int .i64 h2, .int .i64 i2, .int .i64 s2] 23))
      have X4 := Lib.hid (Y4.out.alloc (.cells #[.int .i64 y2, .int .i64 m2, .int .i64 d2, .int .i64 h2, .int .i64 i2, .int .i64 s2] 23))
      have Kb14 := Lib.hid (Jb14.out.alloc (.cells #[.int .i64 y2, .int .i64 m2, .int .i64 d2, .int .i64 h2, .int .i64 i2, .int .i64 s2] 23))
      have Kb24 := Lib.hid (Jb24.out.alloc (.cells #[.int .i64 y2, .int .i64 m2, .int .i64 d2, .int .i64 h2, .int .i64 i2, .int .i64 s2] 23))
      have Kb34 : Hid (Blk (v4.alloc (.cells #[.int .i64 y2, .int .i64 m2, .int .i64 d2, .int .i64 h2, .int .i64 i2, .int .i64 s2] 23)) M3 23 #[.int .i64 y2, .int .i64 m2, .int .i64 d2, .int .i64 h2, .int .i64 i2, .int .i64 s2]) := by rw [← hM3]; exact Blk.new _ _ _
      generalize v4.alloc (.cells #[.int .i64 y2, .int .i64 m2, .int .i64 d2, .int .i64 h2, .int .i64 i2, .int .i64 s2] 23) = w4 at *
      clear hM3
      with_reducible refine (H4.out _ X4.out).mono ?_
      rintro e v5 ⟨rfl, q⟩
      have P5 := Lib.hid (bthen Q4.out q)
      have Y5 := Lib.hid (X4.out.below q)
      have Jb15 := Lib.hid (Kb14.out.below q Kb14.out.lt)
      have Jb25 := Lib.hid (Kb24.out.below q Kb24.out.lt)
      have Jb35 := Lib.hid (Kb34.out.below q Kb34.out.lt)
      obtain ⟨cb1_0, cb1_1, cb1_2, cb1_3, cb1_4, cb1_5⟩ := Jb15.out.cells6
      have lb1 := Jb15.out.lt
      obtain ⟨cb2_0, cb2_1, cb2_2, cb2_3, cb2_4, cb2_5⟩ := Jb25.out.cells6
      have lb2 := Jb25.out.lt
      obtain ⟨cb3_0, cb3_1, cb3_2, cb3_3, cb3_4, cb3_5⟩ := Jb35.out.cells6
      have lb3 := Jb35.out.lt
      clear q
      obtain ⟨M4, hM4⟩ : ∃ M, v5.heap.size = M := ⟨_, rfl⟩
      rw [hM4] at lb1 lb2 lb3
      go_wp2_with fail
      have Q5 := Lib.hid (bal P5.out (.cells #[.int .i64 y2, .int .i64 m2, .int .i64 d2, .int .i64 h2, .int .i64 i2, .int .i64 s2] 23))
      have X5 := Lib.hid (Y5.out.alloc (.cells #[.int .i64 y2, .int .i64 m2, .int .i64 d2, .int .i64 h2, .int .i64 i2, .int .i64 s2] 23))
      have Kb15 := Lib.hid (Jb15.out.alloc (.cells #[.int .i64 y2, .int .i64 m2, .int .i64 d2, .int .i64 h2, .int .i64 i2, .int .i64 s2] 23))
      have Kb25 := Lib.hid (Jb25.out.alloc (.cells #[.int .i64 y2, .int .i64 m2, .int .i64 d2, .int .i64 h2, .int .i64 i2, .int .i64 s2] 23))
      have Kb35 := Lib.hid (Jb35.out.alloc (.cells #[.int .i64 y2, .int .i64 m2, .int .i64 d2, .int .i64 h2, .int .i64 i2, .int .i64 s2] 23))
      have Kb45 : Hid (Blk (v5.alloc (.cells #[.int .i64 y2, .int .i64 m2, .int .i64 d2, .int .i64 h2, .int .i64 i2, .int .i64 s2] 23)) M4 23 #[.int .i64 y2, .int .i64 m2, .int .i64 d2, .int .i64 h2, .int .i64 i2, .int .i64 s2]) := by rw [← hM4]; exact Blk.new _ _ _
      have K3 := Kb35
      generalize v5.alloc (.cells #[.int .i64 y2, .int .i64 m2, .int .i64 d2, .int .i64 h2, .int .i64 i2, .int .i64 s2] 23) = w5 at *
      clear hM4
      with_reducible refine (H5.out _ Q5.out).mono ?_
      rintro e w8 ⟨a8, c8, rfl, b, q⟩
      have Q8 := Lib.hid (bthen Q5.out q)
      have X8 := Lib.hid (X5.out.below q)
      have Z8 := Lib.hid (K3.out.below q K3.out.lt)
      have B8 := Lib.hid b
      clear q b lb1 lb2 lb3 cb1_0 cb1_1 cb1_2 cb1_3 cb1_4 cb1_5 cb2_0 cb2_1 cb2_2 cb2_3 cb2_4 cb2_5 cb3_0 cb3_1 cb3_2 cb3_3 cb3_4 cb3_5
      obtain ⟨z0, z1, z2, z3, z4, z5⟩ := Z8.out.cells6
      have zl := Z8.out.lt
      go_wp2_with fail
      with_reducible refine (H6.out _ Q8.out).mono ?_
      rintro e w9 ⟨a9, c9, rfl, b, q⟩
      have Q9 := Lib.hid (bthen Q8.out q)
      have X9 := Lib.hid (X8.out.below q)
      have B9 := Lib.hid (B8.out.below q)
      have D9 := Lib.hid b
      clear q b
      go_wp2_with fail
      with_reducible refine (H7.out _ _ _ B9.out X9.out).mono ?_
      rintro e w9 ⟨rfl, rfl⟩
      go_wp2_with fail
      go_ret
      exact ⟨rfl, Q9.out⟩
    · go_enter Tryd.func4, Tryd.ntmps4
      go_wp2_with fail
      with_reducible refine (H0.out _ Q0.out).mono ?_
      rintro e w1 ⟨rfl, q⟩
      have Q1 := Lib.hid (bthen Q0.out q)
      have X1 := Lib.hid (X0.out.below q)
      clear q
      go_wp2_with fail
      with_reducible refine (H1.out _ X1.out Q1.out).mono ?_
      rintro e v2 ⟨rfl, q⟩
      have P2 := Lib.hid (bthen Q1.out q)
      have Y2 := Lib.hid (X1.out.below q)
      clear q
      obtain ⟨M1, hM1⟩ : ∃ M, v2.heap.size = M := ⟨_, rfl⟩
      go_wp2_with fail
      have Q2 := Lib.hid (bal P2.out (.cells #[.int .i64 y1, .int .i64 m1, .int .i64 d1, .int .i64 h1, .int .i64 i1, .int .i64 s1] 23))
      have X2 := Lib.hid (Y2.out.alloc (.cells #[.int .i64 y1, .int .i64 m1, .int .i64 d1, .int .i64 h1, .int .i64 i1, .int .i64 s1] 23))
      have Kb12 : Hid (Blk (v2.alloc (.cells #[.int .i64 y1, .int .i64 m1, .int .i64 d1, .int .i64 h1, .int .i64 i1, .int .i64 s1] 23)) M1 23 #[.int .i64 y1, .int .i64 m1, .int .i64 d1, .int .i64 h1, .int .i64 i1, .int .i64 s1]) := by rw [← hM1]; exact Blk.new _ _ _
      generalize v2.alloc (.cells #[.int .i64 y1, .int .i64 m1, .int .i64 d1, .int .i64 h1, .int .i64 i1, .int .i64 s1] 23) = w2 at *
      clear hM1
      with_reducible refine (H2.out _ X2.out).mono ?_
      rintro e v3 ⟨rfl, q⟩
      have P3 := Lib.hid (bthen Q2.out q)
      have Y3 := Lib.hid (X2.out.below q)
      have Jb13 := Lib.hid (Kb12.out.below q Kb12.out.lt)
      clear q
      obtain ⟨M2, hM2⟩ : ∃ M, v3.heap.size = M := ⟨_, rfl⟩
      go_wp2_with fail
      have Q3 := Lib.hid (bal P3.out (.cells #[.int .i64 y1, .int .i64 m1, .int .i64 d1, .int .i64 h1, .int .i64 i1, .int .i64 s1] 23))
      have X3 := Lib.hid (Y3.out.alloc (.cells #[.int .i64 y1, .int .i64 m1, .int .i64 d1, .int .i64 h1, .int .i64 i1, .int .i64 s1] 23))
      have Kb13 := Lib.hid (Jb13.out.alloc (.cells #[.int .i64 y1, .int .i64 m1, .int .i64 d1, .int .i64 h1, .int .i64 i1, .int .i64 s1] 23))
      have Kb23 : Hid (Blk (v3.alloc (.cells #[.int .i64 y1, .int .i64 m1, .int .i64 d1, .int .i64 h1, .int .i64 i1, .int .i64 s1] 23)) M2 23 #[.int .i64 y1, .int .i64 m1, .int .i64 d1, .int .i64 h1, .int .i64 i1, .int .i64 s1]) := by rw [← hM2]; exact Blk.new _ _ _
      generalize v3.alloc (.cells #[.int .i64 y1, .int .i64 m1, .int .i64 d1, .int .i64 h1, .int .i64 i1, .int .i64 s1] 23) = w3 at *
      clear hM2
      with_reducible refine (H3.out _ X3.out Q3.out).mono ?_
      rintro e v4 ⟨rfl, q⟩
      have P4 := Lib.hid (bthen Q3.out q)
      have Y4 := Lib.hid (X3.out.below q)
      have Jb14 := Lib.hid (Kb13.out.below q Kb13.out.lt)
      have Jb24 := Lib.hid (Kb23.out.below q Kb23.out.lt)
      clear q
      obtain ⟨M3, hM3⟩ : ∃ M, v4.heap.size = M := ⟨_, rfl⟩
      go_wp2_with fail
      have Q4 := Lib.hid (bal P4.out (.cells #[.int .i64 y2, .int .i64 m2, .int .i64 d2, .int .i64 h2, .int .i64 i2, .int .i64 s2] 23))
      have X4 := Lib.hid (Y4.out.alloc (.cells #[.int .i64 y2, .int .i64 m2, .int .i64 d2, .int .i64 h2, .int .i64 i2, .int .i64 s2] 23))
      have Kb14 := Lib.hid (Jb14.out.alloc (.cells #[.int .i64 y2, .int .i64 m2, .int .i64 d2, .int .i64 h2, .int .i64 i2, .int .i64 s2] 23))
      have Kb24 := Lib.hid (Jb24.out.alloc (.cells #[.int .i64 y2, .int .i64 m2, .int .i64 d2, .int .i64 h2, .int .i64 i2, .int .i64 s2] 23))
      have Kb34 : Hid (Blk (v4.alloc (.cells #[.int .i64 y2, .int .i64 m2, .int .i64 d2, .int .i64 h2, .int .i64 i2, .int .i64 s2] 23)) M3 23 #[.int .i64 y2, .int .i64 m2, .int .i64 d2, .int .i64 h2, .int .i64 i2, .int .i64 s2]) := by rw [← hM3]; exact Blk.new _ _ _
      generalize v4.alloc (.cells #[.int .i64 y2, .int .i64 m2, .int .i64 d2, .int .i64 h2, .int .i64 i2, .int .i64 s2] 23) = w4 at *
      clear hM3
      with_reducible refine (H4.out _ X4.out).mono ?_
      rintro e v5 ⟨rfl, q⟩
      have P5 := Lib.hid (bthen Q4.out q)
      have Y5 := Lib.hid (X4.out.below q)
      have Jb15 := Lib.hid (Kb14.out.below q Kb14.out.lt)
      have Jb25 := Lib.hid (Kb24.out.below q Kb24.out.lt)
      have Jb35 := Lib.hid (Kb34.out.below q Kb34.out.lt)
      obtain ⟨cb1_0, cb1_1, cb1_2, cb1_3, cb1_4, cb1_5⟩ := Jb15.out.cells6
      have lb1 := Jb15.out.lt
      obtain ⟨cb2_0, cb2_1, cb2_2, cb2_3, cb2_4, cb2_5⟩ := Jb25.out.cells6
      have lb2 := Jb25.out.lt
      obtain ⟨cb3_0, cb3_1, cb3_2, cb3_3, cb3_4, cb3_5⟩ := Jb35.out.cells6
      have lb3 := Jb35.out.lt
      clear q
      obtain ⟨M4, hM4⟩ : ∃ M, v5.heap.size = M := ⟨_, rfl⟩
      rw [hM4] at lb1 lb2 lb3
      go_wp2_with fail
      have Q5 := Lib.hid (bal P5.out (.cells #[.int .i64 y2, .int .i64 m2, .int .i64 d2, .int .i64 h2, .int .i64 i2, .int .i64 s2] 23))
      have X5 := Lib.hid (Y5.out.alloc (.cells #[.int .i64 y2, .int .i64 m2, .int .i64 d2, .int .i64 h2, .int .i64 i2, .int .i64 s2] 23))
      have Kb15 := Lib.hid (Jb15.out.alloc (.cells #[.int .i64 y2, .int .i64 m2, .int .i64 d2, .int .i64 h2, .int .i64 i2, .int .i64 s2] 23))
      have Kb25 := Lib.hid (Jb25.out.alloc (.cells #[.int .i64 y2, .int .i64 m2, .int .i64 d2, .int .i64 h2, .int .i64 i2, .int .i64 s2] 23))
      have Kb35 := Lib.hid (Jb35.out.alloc (.cells #[.int .i64 y2, .int .i64 m2, .int .i64 d2, .int .i64 h2, .int .i64 i2, .int .i64 s2] 23))
      have Kb45 : Hid (Blk (v5.alloc (.cells #[.int .i64 y2, .int .i64 m2, .int .i64 d2, .int .i64 h2, .int .i64 i2, .int .i64 s2] 23)) M4 23 #[.int .i64 y2, .int .i64 m2, .int .i64 d2, .int .i64 h2, .int .i64 i2, .int .i64 s2]) := by rw [← hM4]; exact Blk.new _ _ _
      have K3 := Kb35
      generalize v5.alloc (.cells #[.int .i64 y2, .int .i64 m2, .int .i64 d2, .int .i64 h2, .int .i64 i2, .int .i64 s2] 23) = w5 at *
      clear hM4
      with_reducible refine (H5.out _ Q5.out).mono ?_
      rintro e w8 ⟨a8, c8, rfl, b, q⟩
      have Q8 := Lib.hid (bthen Q5.out q)
      have X8 := Lib.hid (X5.out.below q)
      have Z8 := Lib.hid (K3.out.below q K3.out.lt)
      have B8 := Lib.hid b
      clear q b lb1 lb2 lb3 cb1_0 cb1_1 cb1_2 cb1_3 cb1_4 cb1_5 cb2_0 cb2_1 cb2_2 cb2_3 cb2_4 cb2_5 cb3_0 cb3_1 cb3_2 cb3_3 cb3_4 cb3_5
      obtain ⟨z0, z1, z2, z3, z4, z5⟩ := Z8.out.cells6
      have zl := Z8.out.lt
      go_wp2_with fail
      with_reducible refine (H6.out _ Q8.out).mono ?_
      rintro e w9 ⟨a9, c9, rfl, b, q⟩
      have Q9 := Lib.hid (bthen Q8.out q)
      have X9 := Lib.hid (X8.out.below q)
      have B9 := Lib.hid (B8.out.below q)
      have D9 := Lib.hid b
      clear q b
      go_wp2_with fail
      with_reducible refine (H7.out _ _ _ B9.out X9.out).mono ?_
      rintro e w9 ⟨rfl, rfl⟩
      go_wp2_with fail
      with_reducible refine (H8.out _ _ _ D9.out X9.out).mono ?_
      rintro e w9 ⟨rfl, rfl⟩
      go_wp2_with fail
      go_ret
      exact ⟨rfl, Q9.out⟩
end Go.Proofs.YtneeddbonhiflaaDoor
