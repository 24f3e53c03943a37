/-
  The walk of the law CharsetSame.
-/
import Derived.Test.YtkmpmphabohkkaaDoorChAwake
import Derived.Test.YtkmpmphabohkkaaDoorRegHand
namespace Go.Proofs.YtkmpmphabohkkaaDoor.charsetSame
open Go.RowKit

set_option maxRecDepth 100000 in
set_option maxHeartbeats 8000000 in
theorem walk {w : World} (hWd : Wd w) {k1 : Int} {s1 : List UInt8} {k2 : Int} {s2 : List UInt8} {k3 : Int} {s3 : List UInt8} :
    Calls Tryd.prog 6 #[.agg #[.int .i64 k1, .string ⟨s1.toArray⟩], .agg #[.int .i64 k2, .string ⟨s2.toArray⟩], .agg #[.int .i64 k3, .string ⟨s3.toArray⟩]] w fun e w' => e = .returned (.bool true) ∧ Below w.heap.size w w' := by
  have HW := Lib.hid hWd
  clear hWd
  have HA := Lib.hid (fun v (hq : Below w.heap.size w v) => awakeCh_any v (HW.out.below hq))
  obtain ⟨m1, hm1⟩ : ∃ m, s1.length = m := ⟨_, rfl⟩
  have hs1 : (⟨s1.toArray⟩ : ByteArray).size = m1 := by rw [← hm1]; rfl
  obtain ⟨m2, hm2⟩ : ∃ m, s2.length = m := ⟨_, rfl⟩
  have hs2 : (⟨s2.toArray⟩ : ByteArray).size = m2 := by rw [← hm2]; rfl
  obtain ⟨m3, hm3⟩ : ∃ m, s3.length = m := ⟨_, rfl⟩
  have hs3 : (⟨s3.toArray⟩ : ByteArray).size = m3 := by rw [← hm3]; rfl
  obtain ⟨A, hA⟩ : ∃ A, w.heap.size = A := ⟨_, rfl⟩
  have hA1 : (w.alloc (.cells #[.int .i64 k1, .string ⟨s1.toArray⟩] 23)).heap.size = A + 1 := by simp [hA]
  have hA2 : ((w.alloc (.cells #[.int .i64 k1, .string ⟨s1.toArray⟩] 23)).alloc (.cells #[.int .i64 k2, .string ⟨s2.toArray⟩] 23)).heap.size = A + 1 + 1 := by simp [hA]
  have Q1 := Lib.hid (bal (bal (bal (Below.refl w.heap.size w) (.cells #[.int .i64 k1, .string ⟨s1.toArray⟩] 23)) (.cells #[.int .i64 k2, .string ⟨s2.toArray⟩] 23)) (.cells #[.int .i64 k3, .string ⟨s3.toArray⟩] 23))
  have X1 := Lib.hid (((Blk.new w 23 #[.int .i64 k1, .string ⟨s1.toArray⟩]).alloc (.cells #[.int .i64 k2, .string ⟨s2.toArray⟩] 23)).alloc (.cells #[.int .i64 k3, .string ⟨s3.toArray⟩] 23))
  have Y1 := Lib.hid ((Blk.new (w.alloc (.cells #[.int .i64 k1, .string ⟨s1.toArray⟩] 23)) 23 #[.int .i64 k2, .string ⟨s2.toArray⟩]).alloc (.cells #[.int .i64 k3, .string ⟨s3.toArray⟩] 23))
  have Z1 := Lib.hid (Blk.new ((w.alloc (.cells #[.int .i64 k1, .string ⟨s1.toArray⟩] 23)).alloc (.cells #[.int .i64 k2, .string ⟨s2.toArray⟩] 23)) 23 #[.int .i64 k3, .string ⟨s3.toArray⟩])
  rw [hA] at X1
  rw [hA1] at Y1
  rw [hA2] at Z1
  clear hA1 hA2
  go_enter Tryd.func6, Tryd.ntmps6
  go_wp2_with fail
  generalize (((w.alloc (.cells #[.int .i64 k1, .string ⟨s1.toArray⟩] 23)).alloc (.cells #[.int .i64 k2, .string ⟨s2.toArray⟩] 23)).alloc (.cells #[.int .i64 k3, .string ⟨s3.toArray⟩] 23)) = w1 at *
  clear hA
  obtain ⟨x0, x1, xl, xf⟩ := X1.out.cells2
  obtain ⟨y0, y1, yl, yf⟩ := Y1.out.cells2
  obtain ⟨z0, z1, zl, zf⟩ := Z1.out.cells2
  with_reducible refine (HA.out _ Q1.out).mono ?_
  rintro e w2 ⟨rfl, q⟩
  clear x0 x1 xl xf y0 y1 yl yf z0 z1 zl zf
  have Q2 := Lib.hid (bthen Q1.out q)
  have X2 := Lib.hid (X1.out.below q X1.out.lt)
  have Y2 := Lib.hid (Y1.out.below q Y1.out.lt)
  have Z2 := Lib.hid (Z1.out.below q Z1.out.lt)
  clear q 
  obtain ⟨x0, x1, xl, xf⟩ := X2.out.cells2
  obtain ⟨y0, y1, yl, yf⟩ := Y2.out.cells2
  obtain ⟨z0, z1, zl, zf⟩ := Z2.out.cells2
  by_cases hz : m1 ≤ 1000 ∧ m2 ≤ 1000 ∧ m3 ≤ 1000
  · obtain ⟨g1, g2, g3⟩ := hz
    have i1 : ¬ (1000 : Int) < m1 := by omega
    have i2 : ¬ (1000 : Int) < m2 := by omega
    have i3 : ¬ (1000 : Int) < m3 := by omega
    have H1 := Lib.hid (fun v (hq : Below w.heap.size w v) => same7_any k1 s1 k2 s2 (by omega) (by omega) v (HW.out.below hq))
    have H2 := Lib.hid (fun v (hq : Below w.heap.size w v) => same7_any k2 s2 k3 s3 (by omega) (by omega) v (HW.out.below hq))
    have H3 := Lib.hid (fun v (hq : Below w.heap.size w v) => same7_any k1 s1 k3 s3 (by omega) (by omega) v (HW.out.below hq))
    have H4 := Lib.hid (fun v (hq : Below w.heap.size w v) => same7_any k2 s2 k1 s1 (by omega) (by omega) v (HW.out.below hq))
    have H5 := Lib.hid (fun v (hq : Below w.heap.size w v) => same7_any k1 s1 k1 s1 (by omega) (by omega) v (HW.out.below hq))
    have H6 := Lib.hid (fun w => ref_same_any k1 s1 k2 s2 (by omega) (by omega) w)
    have H7 := Lib.hid (fun w => ref_tvalid_any k1 s1 (by omega) w)
    have HT := Lib.hid (fun h h2 => same_trans (k := k1) (s := s1) (m := k2) (t := s2) (n := k3) (u := s3) h h2)
    rw [same_symm k2 s2 k1 s1] at H4
    rw [same_self k1 s1] at H5
    unfold tV at H1 H2 H3 H4 H5 H6 H7
    generalize sameT k1 s1 k2 s2 = ab at *
    generalize sameT k2 s2 k3 s3 = bc at *
    generalize sameT k1 s1 k3 s3 = ac at *
    generalize vT k1 s1 = va at *
    clear g1 g2 g3 hm1 hm2 hm3
    go_wp2_with fail
    clear i1 i2 i3 hs1 hs2 hs3
    go_region_held3 (fun w' => w'.cell? ⟨A, 0, none⟩ = some (.int .i64 k1) ∧ w'.cell? ⟨A, 1, none⟩ = some (.string ⟨s1.toArray⟩) ∧ w'.cell? ⟨A + 1, 0, none⟩ = some (.int .i64 k2) ∧ w'.cell? ⟨A + 1, 1, none⟩ = some (.string ⟨s2.toArray⟩) ∧ w'.cell? ⟨A + 1 + 1, 0, none⟩ = some (.int .i64 k3) ∧ w'.cell? ⟨A + 1 + 1, 1, none⟩ = some (.string ⟨s3.toArray⟩)) (first | exact ⟨x0, x1, y0, y1, z0, z1⟩ | exact ⟨xa0, xa1, ya0, ya1, za0, za1⟩ | exact ⟨xb0, xb1, yb0, yb1, zb0, zb1⟩ | exact ⟨xc0, xc1, yc0, yc1, zc0, zc1⟩ | assumption)
      (first
       | (go_at_call 25; (with_reducible refine (H1.out _ Q2.out.drew).mono ?_); rintro e w3 ⟨rfl, q⟩; have Q3 := Lib.hid (bthen Q2.out.drew q); have X3 := Lib.hid ((X2.out.drewN 1).below q (X2.out.drewN 1).lt); have Y3 := Lib.hid ((Y2.out.drewN 1).below q (Y2.out.drewN 1).lt); have Z3 := Lib.hid ((Z2.out.drewN 1).below q (Z2.out.drewN 1).lt); clear q; obtain ⟨xa0, xa1, xal, xaf⟩ := X3.out.cells2; obtain ⟨ya0, ya1, yal, yaf⟩ := Y3.out.cells2; obtain ⟨za0, za1, zal, zaf⟩ := Z3.out.cells2)
       | (go_at_call 25; (with_reducible refine (H2.out _ Q3.out).mono ?_); rintro e w4 ⟨rfl, q⟩; have Q4 := Lib.hid (bthen Q3.out q); have X4 := Lib.hid (X3.out.below q X3.out.lt); have Y4 := Lib.hid (Y3.out.below q Y3.out.lt); have Z4 := Lib.hid (Z3.out.below q Z3.out.lt); clear q; obtain ⟨xb0, xb1, xbl, xbf⟩ := X4.out.cells2; obtain ⟨yb0, yb1, ybl, ybf⟩ := Y4.out.cells2; obtain ⟨zb0, zb1, zbl, zbf⟩ := Z4.out.cells2)
       | (go_at_call 25; (with_reducible refine (H3.out _ Q4.out).mono ?_); rintro e w5 ⟨rfl, q⟩; have Q5 := Lib.hid (bthen Q4.out q); have X5 := Lib.hid (X4.out.below q X4.out.lt); have Y5 := Lib.hid (Y4.out.below q Y4.out.lt); have Z5 := Lib.hid (Z4.out.below q Z4.out.lt); clear q; obtain ⟨xc0, xc1, xcl, xcf⟩ := X5.out.cells2; obtain ⟨yc0, yc1, ycl, ycf⟩ := Y5.out.cells2; obtain ⟨zc0, zc1, zcl, zcf⟩ := Z5.out.cells2))
    clear x0 x1 xl xf y0 y1 yl yf z0 z1 zl zf xa0 xa1 xal xaf ya0 ya1 yal yaf za0 za1 zal zaf xb0 xb1 xbl xbf yb0 yb1 ybl ybf zb0 zb1 zbl zbf xc0 xc1 xcl xcf yc0 yc1 ycl ycf zc0 zc1 zcl zcf
    obtain ⟨x0, x1, xl, xf⟩ := X5.out.cells2
    obtain ⟨y0, y1, yl, yf⟩ := Y5.out.cells2
    obtain ⟨z0, z1, zl, zf⟩ := Z5.out.cells2
    go_wp2_with fail
    rcases ab with _ | _
    · clear HT
      refine wp_region_held_drew (S := fun w' => w'.cell? ⟨A, 0, none⟩ = some (.int .i64 k1) ∧ w'.cell? ⟨A, 1, none⟩ = some (.string ⟨s1.toArray⟩) ∧ w'.cell? ⟨A + 1, 0, none⟩ = some (.int .i64 k2) ∧ w'.cell? ⟨A + 1, 1, none⟩ = some (.string ⟨s2.toArray⟩) ∧ w'.cell? ⟨A + 1 + 1, 0, none⟩ = some (.int .i64 k3) ∧ w'.cell? ⟨A + 1 + 1, 1, none⟩ = some (.string ⟨s3.toArray⟩)) (by kernel_rfl) (by exact ⟨x0, x1, y0, y1, z0, z1⟩) (fun hHeld => ?_)
      refine hand_take (i := 0) (v := ?_) rfl (by kernel_rfl) (by kernel_rfl) (by kernel_rfl) (fun _ _ _ h => h) (Or.inl ⟨by rfl, ?_⟩) hHeld ?_
      rotate_left
      · intro w hSw
        (try dsimp only at hSw)
        go_simp
        try with_reducible rfl
      simp only [Act.put, List.setIfInBounds_toArray, List.set_cons_zero, List.set_cons_succ]
      refine hand_take (i := 1) (v := ?_) rfl (by kernel_rfl) (by kernel_rfl) (by kernel_rfl) (fun _ _ _ h => h) (Or.inl ⟨by rfl, ?_⟩) hHeld ?_
      rotate_left
      · intro w hSw
        (try dsimp only at hSw)
        go_simp
        try with_reducible rfl
      simp only [Act.put, List.setIfInBounds_toArray, List.set_cons_zero, List.set_cons_succ]
      refine hand_take (i := 2) (v := ?_) rfl (by kernel_rfl) (by kernel_rfl) (by kernel_rfl) (fun _ _ _ h => h) (Or.inl ⟨by rfl, ?_⟩) hHeld ?_
      rotate_left
      · intro w hSw
        (try dsimp only at hSw)
        go_simp
        try with_reducible rfl
      simp only [Act.put, List.setIfInBounds_toArray, List.set_cons_zero, List.set_cons_succ]
      refine hand_run (i := 3) rfl (by kernel_rfl) (fun K hK => ?_)
      go_simp
      (go_at_call 26; (with_reducible refine (H6.out _).mono ?_))
      rintro e w6 ⟨rfl, q⟩
      have Q6 := Lib.hid (bthen Q5.out.drew q)
      have X6 := Lib.hid ((X5.out.drewN 1).below q (X5.out.drewN 1).lt)
      have Y6 := Lib.hid ((Y5.out.drewN 1).below q (Y5.out.drewN 1).lt)
      have Z6 := Lib.hid ((Z5.out.drewN 1).below q (Z5.out.drewN 1).lt)
      clear q hHeld x0 x1 xl xf y0 y1 yl yf z0 z1 zl zf
      obtain ⟨x0, x1, xl, xf⟩ := X6.out.cells2
      obtain ⟨y0, y1, yl, yf⟩ := Y6.out.cells2
      obtain ⟨z0, z1, zl, zf⟩ := Z6.out.cells2
      refine hK.out _ _ (by exact ⟨x0, x1, y0, y1, z0, z1⟩) (fun hHeld => ?_)
      clear hK K
      try simp only [Act.put, List.setIfInBounds_toArray, List.set_cons_zero, List.set_cons_succ]
      refine hand_take (i := 4) (v := ?_) rfl (by kernel_rfl) (by kernel_rfl) (by kernel_rfl) (fun _ _ _ h => h) (Or.inl ⟨by rfl, ?_⟩) hHeld ?_
      rotate_left
      · intro w hSw
        (try dsimp only at hSw)
        go_simp
        try with_reducible rfl
      simp only [Act.put, List.setIfInBounds_toArray, List.set_cons_zero, List.set_cons_succ]
      refine hand_take (i := 5) (v := ?_) rfl (by kernel_rfl) (by kernel_rfl) (by kernel_rfl) (fun _ _ _ h => h) (Or.inl ⟨by rfl, ?_⟩) hHeld ?_
      rotate_left
      · intro w hSw
        (try dsimp only at hSw)
        go_simp
        try with_reducible rfl
      simp only [Act.put, List.setIfInBounds_toArray, List.set_cons_zero, List.set_cons_succ]
      refine hand_take (i := 6) (v := ?_) rfl (by kernel_rfl) (by kernel_rfl) (by kernel_rfl) (fun _ _ _ h => h) (Or.inl ⟨by rfl, ?_⟩) hHeld ?_
      rotate_left
      · intro w hSw
        (try dsimp only at hSw)
        go_simp
        try with_reducible rfl
      simp only [Act.put, List.setIfInBounds_toArray, List.set_cons_zero, List.set_cons_succ]
      refine hand_take (i := 7) (v := ?_) rfl (by kernel_rfl) (by kernel_rfl) (by kernel_rfl) (fun _ _ _ h => h) (Or.inl ⟨by rfl, ?_⟩) hHeld ?_
      rotate_left
      · intro w hSw
        (try dsimp only at hSw)
        go_simp
        try with_reducible rfl
      simp only [Act.put, List.setIfInBounds_toArray, List.set_cons_zero, List.set_cons_succ]
      refine hand_take (i := 8) (v := ?_) rfl (by kernel_rfl) (by kernel_rfl) (by kernel_rfl) (fun _ _ _ h => h) (Or.inl ⟨by rfl, ?_⟩) hHeld ?_
      rotate_left
      · intro w hSw
        (try dsimp only at hSw)
        go_simp
        try with_reducible rfl
      simp only [Act.put, List.setIfInBounds_toArray, List.set_cons_zero, List.set_cons_succ]
      refine hand_run (i := 9) rfl (by kernel_rfl) (fun K hK => ?_)
      go_simp
      (go_at_call 25; (with_reducible refine (H4.out _ Q6.out).mono ?_))
      rintro e w7 ⟨rfl, q⟩
      have Q7 := Lib.hid (bthen Q6.out q)
      have X7 := Lib.hid (X6.out.below q X6.out.lt)
      have Y7 := Lib.hid (Y6.out.below q Y6.out.lt)
      have Z7 := Lib.hid (Z6.out.below q Z6.out.lt)
      clear q hHeld x0 x1 xl xf y0 y1 yl yf z0 z1 zl zf
      obtain ⟨x0, x1, xl, xf⟩ := X7.out.cells2
      obtain ⟨y0, y1, yl, yf⟩ := Y7.out.cells2
      obtain ⟨z0, z1, zl, zf⟩ := Z7.out.cells2
      refine hK.out _ _ (by exact ⟨x0, x1, y0, y1, z0, z1⟩) (fun hHeld => ?_)
      clear hK K
      try simp only [Act.put, List.setIfInBounds_toArray, List.set_cons_zero, List.set_cons_succ]
      refine hand_take (i := 10) (v := ?_) rfl (by kernel_rfl) (by kernel_rfl) (by kernel_rfl) (fun _ _ _ h => h) (Or.inl ⟨by rfl, ?_⟩) hHeld ?_
      rotate_left
      · intro w hSw
        (try dsimp only at hSw)
        go_simp
        try with_reducible rfl
      simp only [Act.put, List.setIfInBounds_toArray, List.set_cons_zero, List.set_cons_succ]
      refine hand_take (i := 11) (v := ?_) rfl (by kernel_rfl) (by kernel_rfl) (by kernel_rfl) (fun _ _ _ h => h) (Or.inl ⟨by rfl, ?_⟩) hHeld ?_
      rotate_left
      · intro w hSw
        (try dsimp only at hSw)
        go_simp
        try with_reducible rfl
      simp only [Act.put, List.setIfInBounds_toArray, List.set_cons_zero, List.set_cons_succ]
      refine hand_take (i := 12) (v := ?_) rfl (by kernel_rfl) (by kernel_rfl) (by kernel_rfl) (fun _ _ _ h => h) (Or.inl ⟨by rfl, ?_⟩) hHeld ?_
      rotate_left
      · intro w hSw
        (try dsimp only at hSw)
        go_simp
        try with_reducible rfl
      simp only [Act.put, List.setIfInBounds_toArray, List.set_cons_zero, List.set_cons_succ]
      refine hand_take (i := 13) (v := ?_) rfl (by kernel_rfl) (by kernel_rfl) (by kernel_rfl) (fun _ _ _ h => h) (Or.inl ⟨by rfl, ?_⟩) hHeld ?_
      rotate_left
      · intro w hSw
        (try dsimp only at hSw)
        go_simp
        try with_reducible rfl
      simp only [Act.put, List.setIfInBounds_toArray, List.set_cons_zero, List.set_cons_succ]
      refine hand_take (i := 14) (v := ?_) rfl (by kernel_rfl) (by kernel_rfl) (by kernel_rfl) (fun _ _ _ h => h) (Or.inl ⟨by rfl, ?_⟩) hHeld ?_
      rotate_left
      · intro w hSw
        (try dsimp only at hSw)
        go_simp
        try with_reducible rfl
      simp only [Act.put, List.setIfInBounds_toArray, List.set_cons_zero, List.set_cons_succ]
      refine hand_take (i := 16) (v := ?_) rfl (by kernel_rfl) (by kernel_rfl) (by kernel_rfl) (fun _ _ _ h => h) (Or.inl ⟨by rfl, ?_⟩) hHeld ?_
      rotate_left
      · intro w hSw
        (try dsimp only at hSw)
        go_simp
        try with_reducible rfl
      simp only [Act.put, List.setIfInBounds_toArray, List.set_cons_zero, List.set_cons_succ]
      refine hand_run (i := 15) rfl (by kernel_rfl) (fun K hK => ?_)
      go_simp
      (go_at_call 25; (with_reducible refine (H5.out _ Q7.out).mono ?_))
      rintro e w8 ⟨rfl, q⟩
      have Q8 := Lib.hid (bthen Q7.out q)
      have X8 := Lib.hid (X7.out.below q X7.out.lt)
      have Y8 := Lib.hid (Y7.out.below q Y7.out.lt)
      have Z8 := Lib.hid (Z7.out.below q Z7.out.lt)
      clear q hHeld x0 x1 xl xf y0 y1 yl yf z0 z1 zl zf
      obtain ⟨x0, x1, xl, xf⟩ := X8.out.cells2
      obtain ⟨y0, y1, yl, yf⟩ := Y8.out.cells2
      obtain ⟨z0, z1, zl, zf⟩ := Z8.out.cells2
      refine hK.out _ _ (by exact ⟨x0, x1, y0, y1, z0, z1⟩) (fun hHeld => ?_)
      clear hK K
      try simp only [Act.put, List.setIfInBounds_toArray, List.set_cons_zero, List.set_cons_succ]
      refine hand_run (i := 17) rfl (by kernel_rfl) (fun K hK => ?_)
      go_simp
      (go_at_call 13; (with_reducible refine (H7.out _).mono ?_))
      rintro e w9 ⟨rfl, q⟩
      have Q9 := Lib.hid (bthen Q8.out q)
      have X9 := Lib.hid (X8.out.below q X8.out.lt)
      have Y9 := Lib.hid (Y8.out.below q Y8.out.lt)
      have Z9 := Lib.hid (Z8.out.below q Z8.out.lt)
      clear q hHeld x0 x1 xl xf y0 y1 yl yf z0 z1 zl zf
      obtain ⟨x0, x1, xl, xf⟩ := X9.out.cells2
      obtain ⟨y0, y1, yl, yf⟩ := Y9.out.cells2
      obtain ⟨z0, z1, zl, zf⟩ := Z9.out.cells2
      refine hK.out _ _ (by exact ⟨x0, x1, y0, y1, z0, z1⟩) (fun hHeld => ?_)
      clear hK K
      try simp only [Act.put, List.setIfInBounds_toArray, List.set_cons_zero, List.set_cons_succ]
      refine hand_take (i := 18) (v := ?_) rfl (by kernel_rfl) (by kernel_rfl) (by kernel_rfl) (fun _ _ _ h => h) (Or.inl ⟨by rfl, ?_⟩) hHeld ?_
      rotate_left
      · intro w hSw
        (try dsimp only at hSw)
        go_simp
        try with_reducible rfl
      simp only [Act.put, List.setIfInBounds_toArray, List.set_cons_zero, List.set_cons_succ]
      refine hand_take (i := 19) (v := ?_) rfl (by kernel_rfl) (by kernel_rfl) (by kernel_rfl) (fun _ _ _ h => h) (Or.inl ⟨by rfl, ?_⟩) hHeld ?_
      rotate_left
      · intro w hSw
        (try dsimp only at hSw)
        go_simp
        try with_reducible rfl
      simp only [Act.put, List.setIfInBounds_toArray, List.set_cons_zero, List.set_cons_succ]
      refine hand_take (i := 20) (v := ?_) rfl (by kernel_rfl) (by kernel_rfl) (by kernel_rfl) (fun _ _ _ h => h) (Or.inl ⟨by rfl, ?_⟩) hHeld ?_
      rotate_left
      · intro w hSw
        (try dsimp only at hSw)
        go_simp
        try with_reducible rfl
      simp only [Act.put, List.setIfInBounds_toArray, List.set_cons_zero, List.set_cons_succ]
      refine hand_take (i := 21) (v := ?_) rfl (by kernel_rfl) (by kernel_rfl) (by kernel_rfl) (fun _ _ _ h => h) (Or.inl ⟨by rfl, ?_⟩) hHeld ?_
      rotate_left
      · intro w hSw
        (try dsimp only at hSw)
        go_simp
        try with_reducible rfl
      simp only [Act.put, List.setIfInBounds_toArray, List.set_cons_zero, List.set_cons_succ]
      refine hand_take (i := 22) (v := ?_) rfl (by kernel_rfl) (by kernel_rfl) (by kernel_rfl) (fun _ _ _ h => h) (Or.inl ⟨by rfl, ?_⟩) hHeld ?_
      rotate_left
      · intro w hSw
        (try dsimp only at hSw)
        go_simp
        try with_reducible rfl
      simp only [Act.put, List.setIfInBounds_toArray, List.set_cons_zero, List.set_cons_succ]
      refine hand_take (i := 23) (v := ?_) rfl (by kernel_rfl) (by kernel_rfl) (by kernel_rfl) (fun _ _ _ h => h) (Or.inl ⟨by rfl, ?_⟩) hHeld ?_
      rotate_left
      · intro w hSw
        (try dsimp only at hSw)
        go_simp
        try with_reducible rfl
      simp only [Act.put, List.setIfInBounds_toArray, List.set_cons_zero, List.set_cons_succ]
      refine hand_take (i := 24) (v := undef) rfl (by kernel_rfl) (by kernel_rfl) (by kernel_rfl) (fun _ _ _ h => h) (Or.inr ⟨by rfl, rfl⟩) hHeld ?_
      simp only [Act.put, List.setIfInBounds_toArray, List.set_cons_zero, List.set_cons_succ]
      refine hand_take (i := 25) (v := undef) rfl (by kernel_rfl) (by kernel_rfl) (by kernel_rfl) (fun _ _ _ h => h) (Or.inr ⟨by rfl, rfl⟩) hHeld ?_
      simp only [Act.put, List.setIfInBounds_toArray, List.set_cons_zero, List.set_cons_succ]
      refine hand_take (i := 26) (v := ?_) rfl (by kernel_rfl) (by kernel_rfl) (by kernel_rfl) (fun _ _ _ h => h) (Or.inl ⟨by rfl, ?_⟩) hHeld ?_
      rotate_left
      · intro w hSw
        (try dsimp only at hSw)
        go_simp
        try with_reducible rfl
      simp only [Act.put, List.setIfInBounds_toArray, List.set_cons_zero, List.set_cons_succ]
      refine hand_take (i := 27) (v := ?_) rfl (by kernel_rfl) (by kernel_rfl) (by kernel_rfl) (fun _ _ _ h => h) (Or.inl ⟨by rfl, ?_⟩) hHeld ?_
      rotate_left
      · intro w hSw
        (try dsimp only at hSw)
        go_simp
        try with_reducible rfl
      simp only [Act.put, List.setIfInBounds_toArray, List.set_cons_zero, List.set_cons_succ]
      refine hand_take (i := 28) (v := undef) rfl (by kernel_rfl) (by kernel_rfl) (by kernel_rfl) (fun _ _ _ h => h) (Or.inr ⟨by rfl, rfl⟩) hHeld ?_
      simp only [Act.put, List.setIfInBounds_toArray, List.set_cons_zero, List.set_cons_succ]
      refine hand_take (i := 29) (v := ?_) rfl (by kernel_rfl) (by kernel_rfl) (by kernel_rfl) (fun _ _ _ h => h) (Or.inl ⟨by rfl, ?_⟩) hHeld ?_
      rotate_left
      · intro w hSw
        (try dsimp only at hSw)
        go_simp
        try with_reducible rfl
      simp only [Act.put, List.setIfInBounds_toArray, List.set_cons_zero, List.set_cons_succ]
      refine hand_take (i := 30) (v := ?_) rfl (by kernel_rfl) (by kernel_rfl) (by kernel_rfl) (fun _ _ _ h => h) (Or.inl ⟨by rfl, ?_⟩) hHeld ?_
      rotate_left
      · intro w hSw
        (try dsimp only at hSw)
        go_simp
        try with_reducible rfl
      simp only [Act.put, List.setIfInBounds_toArray, List.set_cons_zero, List.set_cons_succ]
      refine hand_take (i := 31) (v := ?_) rfl (by kernel_rfl) (by kernel_rfl) (by kernel_rfl) (fun _ _ _ h => h) (Or.inl ⟨by rfl, ?_⟩) hHeld ?_
      rotate_left
      · intro w hSw
        (try dsimp only at hSw)
        go_simp
        try with_reducible rfl
      simp only [Act.put, List.setIfInBounds_toArray, List.set_cons_zero, List.set_cons_succ]
      refine wpAnyH_done (by kernel_rfl) ?_ _
      clear hHeld
      go_wp2_with fail
      go_ret
      exact ⟨rfl, Q9.out⟩
    · rcases bc with _ | _
      · clear HT
        refine wp_region_held_drew (S := fun w' => w'.cell? ⟨A, 0, none⟩ = some (.int .i64 k1) ∧ w'.cell? ⟨A, 1, none⟩ = some (.string ⟨s1.toArray⟩) ∧ w'.cell? ⟨A + 1, 0, none⟩ = some (.int .i64 k2) ∧ w'.cell? ⟨A + 1, 1, none⟩ = some (.string ⟨s2.toArray⟩) ∧ w'.cell? ⟨A + 1 + 1, 0, none⟩ = some (.int .i64 k3) ∧ w'.cell? ⟨A + 1 + 1, 1, none⟩ = some (.string ⟨s3.toArray⟩)) (by kernel_rfl) (by exact ⟨x0, x1, y0, y1, z0, z1⟩) (fun hHeld => ?_)
        refine hand_take (i := 0) (v := ?_) rfl (by kernel_rfl) (by kernel_rfl) (by kernel_rfl) (fun _ _ _ h => h) (Or.inl ⟨by rfl, ?_⟩) hHeld ?_
        rotate_left
        · intro w hSw
          (try dsimp only at hSw)
          go_simp
          try with_reducible rfl
        simp only [Act.put, List.setIfInBounds_toArray, List.set_cons_zero, List.set_cons_succ]
        refine hand_take (i := 1) (v := ?_) rfl (by kernel_rfl) (by kernel_rfl) (by kernel_rfl) (fun _ _ _ h => h) (Or.inl ⟨by rfl, ?_⟩) hHeld ?_
        rotate_left
        · intro w hSw
          (try dsimp only at hSw)
          go_simp
          try with_reducible rfl
        simp only [Act.put, List.setIfInBounds_toArray, List.set_cons_zero, List.set_cons_succ]
        refine hand_take (i := 2) (v := ?_) rfl (by kernel_rfl) (by kernel_rfl) (by kernel_rfl) (fun _ _ _ h => h) (Or.inl ⟨by rfl, ?_⟩) hHeld ?_
        rotate_left
        · intro w hSw
          (try dsimp only at hSw)
          go_simp
          try with_reducible rfl
        simp only [Act.put, List.setIfInBounds_toArray, List.set_cons_zero, List.set_cons_succ]
        refine hand_run (i := 3) rfl (by kernel_rfl) (fun K hK => ?_)
        go_simp
        (go_at_call 26; (with_reducible refine (H6.out _).mono ?_))
        rintro e w6 ⟨rfl, q⟩
        have Q6 := Lib.hid (bthen Q5.out.drew q)
        have X6 := Lib.hid ((X5.out.drewN 1).below q (X5.out.drewN 1).lt)
        have Y6 := Lib.hid ((Y5.out.drewN 1).below q (Y5.out.drewN 1).lt)
        have Z6 := Lib.hid ((Z5.out.drewN 1).below q (Z5.out.drewN 1).lt)
        clear q hHeld x0 x1 xl xf y0 y1 yl yf z0 z1 zl zf
        obtain ⟨x0, x1, xl, xf⟩ := X6.out.cells2
        obtain ⟨y0, y1, yl, yf⟩ := Y6.out.cells2
        obtain ⟨z0, z1, zl, zf⟩ := Z6.out.cells2
        refine hK.out _ _ (by exact ⟨x0, x1, y0, y1, z0, z1⟩) (fun hHeld => ?_)
        clear hK K
        try simp only [Act.put, List.setIfInBounds_toArray, List.set_cons_zero, List.set_cons_succ]
        refine hand_take (i := 4) (v := ?_) rfl (by kernel_rfl) (by kernel_rfl) (by kernel_rfl) (fun _ _ _ h => h) (Or.inl ⟨by rfl, ?_⟩) hHeld ?_
        rotate_left
        · intro w hSw
          (try dsimp only at hSw)
          go_simp
          try with_reducible rfl
        simp only [Act.put, List.setIfInBounds_toArray, List.set_cons_zero, List.set_cons_succ]
        refine hand_take (i := 5) (v := ?_) rfl (by kernel_rfl) (by kernel_rfl) (by kernel_rfl) (fun _ _ _ h => h) (Or.inl ⟨by rfl, ?_⟩) hHeld ?_
        rotate_left
        · intro w hSw
          (try dsimp only at hSw)
          go_simp
          try with_reducible rfl
        simp only [Act.put, List.setIfInBounds_toArray, List.set_cons_zero, List.set_cons_succ]
        refine hand_take (i := 6) (v := ?_) rfl (by kernel_rfl) (by kernel_rfl) (by kernel_rfl) (fun _ _ _ h => h) (Or.inl ⟨by rfl, ?_⟩) hHeld ?_
        rotate_left
        · intro w hSw
          (try dsimp only at hSw)
          go_simp
          try with_reducible rfl
        simp only [Act.put, List.setIfInBounds_toArray, List.set_cons_zero, List.set_cons_succ]
        refine hand_take (i := 7) (v := ?_) rfl (by kernel_rfl) (by kernel_rfl) (by kernel_rfl) (fun _ _ _ h => h) (Or.inl ⟨by rfl, ?_⟩) hHeld ?_
        rotate_left
        · intro w hSw
          (try dsimp only at hSw)
          go_simp
          try with_reducible rfl
        simp only [Act.put, List.setIfInBounds_toArray, List.set_cons_zero, List.set_cons_succ]
        refine hand_take (i := 8) (v := ?_) rfl (by kernel_rfl) (by kernel_rfl) (by kernel_rfl) (fun _ _ _ h => h) (Or.inl ⟨by rfl, ?_⟩) hHeld ?_
        rotate_left
        · intro w hSw
          (try dsimp only at hSw)
          go_simp
          try with_reducible rfl
        simp only [Act.put, List.setIfInBounds_toArray, List.set_cons_zero, List.set_cons_succ]
        refine hand_run (i := 9) rfl (by kernel_rfl) (fun K hK => ?_)
        go_simp
        (go_at_call 25; (with_reducible refine (H4.out _ Q6.out).mono ?_))
        rintro e w7 ⟨rfl, q⟩
        have Q7 := Lib.hid (bthen Q6.out q)
        have X7 := Lib.hid (X6.out.below q X6.out.lt)
        have Y7 := Lib.hid (Y6.out.below q Y6.out.lt)
        have Z7 := Lib.hid (Z6.out.below q Z6.out.lt)
        clear q hHeld x0 x1 xl xf y0 y1 yl yf z0 z1 zl zf
        obtain ⟨x0, x1, xl, xf⟩ := X7.out.cells2
        obtain ⟨y0, y1, yl, yf⟩ := Y7.out.cells2
        obtain ⟨z0, z1, zl, zf⟩ := Z7.out.cells2
        refine hK.out _ _ (by exact ⟨x0, x1, y0, y1, z0, z1⟩) (fun hHeld => ?_)
        clear hK K
        try simp only [Act.put, List.setIfInBounds_toArray, List.set_cons_zero, List.set_cons_succ]
        refine hand_take (i := 10) (v := ?_) rfl (by kernel_rfl) (by kernel_rfl) (by kernel_rfl) (fun _ _ _ h => h) (Or.inl ⟨by rfl, ?_⟩) hHeld ?_
        rotate_left
        · intro w hSw
          (try dsimp only at hSw)
          go_simp
          try with_reducible rfl
        simp only [Act.put, List.setIfInBounds_toArray, List.set_cons_zero, List.set_cons_succ]
        refine hand_take (i := 11) (v := ?_) rfl (by kernel_rfl) (by kernel_rfl) (by kernel_rfl) (fun _ _ _ h => h) (Or.inl ⟨by rfl, ?_⟩) hHeld ?_
        rotate_left
        · intro w hSw
          (try dsimp only at hSw)
          go_simp
          try with_reducible rfl
        simp only [Act.put, List.setIfInBounds_toArray, List.set_cons_zero, List.set_cons_succ]
        refine hand_take (i := 12) (v := ?_) rfl (by kernel_rfl) (by kernel_rfl) (by kernel_rfl) (fun _ _ _ h => h) (Or.inl ⟨by rfl, ?_⟩) hHeld ?_
        rotate_left
        · intro w hSw
          (try dsimp only at hSw)
          go_simp
          try with_reducible rfl
        simp only [Act.put, List.setIfInBounds_toArray, List.set_cons_zero, List.set_cons_succ]
        refine hand_take (i := 13) (v := ?_) rfl (by kernel_rfl) (by kernel_rfl) (by kernel_rfl) (fun _ _ _ h => h) (Or.inl ⟨by rfl, ?_⟩) hHeld ?_
        rotate_left
        · intro w hSw
          (try dsimp only at hSw)
          go_simp
          try with_reducible rfl
        simp only [Act.put, List.setIfInBounds_toArray, List.set_cons_zero, List.set_cons_succ]
        refine hand_take (i := 14) (v := ?_) rfl (by kernel_rfl) (by kernel_rfl) (by kernel_rfl) (fun _ _ _ h => h) (Or.inl ⟨by rfl, ?_⟩) hHeld ?_
        rotate_left
        · intro w hSw
          (try dsimp only at hSw)
          go_simp
          try with_reducible rfl
        simp only [Act.put, List.setIfInBounds_toArray, List.set_cons_zero, List.set_cons_succ]
        refine hand_take (i := 16) (v := ?_) rfl (by kernel_rfl) (by kernel_rfl) (by kernel_rfl) (fun _ _ _ h => h) (Or.inl ⟨by rfl, ?_⟩) hHeld ?_
        rotate_left
        · intro w hSw
          (try dsimp only at hSw)
          go_simp
          try with_reducible rfl
        simp only [Act.put, List.setIfInBounds_toArray, List.set_cons_zero, List.set_cons_succ]
        refine hand_run (i := 15) rfl (by kernel_rfl) (fun K hK => ?_)
        go_simp
        (go_at_call 25; (with_reducible refine (H5.out _ Q7.out).mono ?_))
        rintro e w8 ⟨rfl, q⟩
        have Q8 := Lib.hid (bthen Q7.out q)
        have X8 := Lib.hid (X7.out.below q X7.out.lt)
        have Y8 := Lib.hid (Y7.out.below q Y7.out.lt)
        have Z8 := Lib.hid (Z7.out.below q Z7.out.lt)
        clear q hHeld x0 x1 xl xf y0 y1 yl yf z0 z1 zl zf
        obtain ⟨x0, x1, xl, xf⟩ := X8.out.cells2
        obtain ⟨y0, y1, yl, yf⟩ := Y8.out.cells2
        obtain ⟨z0, z1, zl, zf⟩ := Z8.out.cells2
        refine hK.out _ _ (by exact ⟨x0, x1, y0, y1, z0, z1⟩) (fun hHeld => ?_)
        clear hK K
        try simp only [Act.put, List.setIfInBounds_toArray, List.set_cons_zero, List.set_cons_succ]
        refine hand_run (i := 17) rfl (by kernel_rfl) (fun K hK => ?_)
        go_simp
        (go_at_call 13; (with_reducible refine (H7.out _).mono ?_))
        rintro e w9 ⟨rfl, q⟩
        have Q9 := Lib.hid (bthen Q8.out q)
        have X9 := Lib.hid (X8.out.below q X8.out.lt)
        have Y9 := Lib.hid (Y8.out.below q Y8.out.lt)
        have Z9 := Lib.hid (Z8.out.below q Z8.out.lt)
        clear q hHeld x0 x1 xl xf y0 y1 yl yf z0 z1 zl zf
        obtain ⟨x0, x1, xl, xf⟩ := X9.out.cells2
        obtain ⟨y0, y1, yl, yf⟩ := Y9.out.cells2
        obtain ⟨z0, z1, zl, zf⟩ := Z9.out.cells2
        refine hK.out _ _ (by exact ⟨x0, x1, y0, y1, z0, z1⟩) (fun hHeld => ?_)
        clear hK K
        try simp only [Act.put, List.setIfInBounds_toArray, List.set_cons_zero, List.set_cons_succ]
        refine hand_take (i := 18) (v := ?_) rfl (by kernel_rfl) (by kernel_rfl) (by kernel_rfl) (fun _ _ _ h => h) (Or.inl ⟨by rfl, ?_⟩) hHeld ?_
        rotate_left
        · intro w hSw
          (try dsimp only at hSw)
          go_simp
          try with_reducible rfl
        simp only [Act.put, List.setIfInBounds_toArray, List.set_cons_zero, List.set_cons_succ]
        refine hand_take (i := 19) (v := ?_) rfl (by kernel_rfl) (by kernel_rfl) (by kernel_rfl) (fun _ _ _ h => h) (Or.inl ⟨by rfl, ?_⟩) hHeld ?_
        rotate_left
        · intro w hSw
          (try dsimp only at hSw)
          go_simp
          try with_reducible rfl
        simp only [Act.put, List.setIfInBounds_toArray, List.set_cons_zero, List.set_cons_succ]
        refine hand_take (i := 20) (v := ?_) rfl (by kernel_rfl) (by kernel_rfl) (by kernel_rfl) (fun _ _ _ h => h) (Or.inl ⟨by rfl, ?_⟩) hHeld ?_
        rotate_left
        · intro w hSw
          (try dsimp only at hSw)
          go_simp
          try with_reducible rfl
        simp only [Act.put, List.setIfInBounds_toArray, List.set_cons_zero, List.set_cons_succ]
        refine hand_take (i := 21) (v := ?_) rfl (by kernel_rfl) (by kernel_rfl) (by kernel_rfl) (fun _ _ _ h => h) (Or.inl ⟨by rfl, ?_⟩) hHeld ?_
        rotate_left
        · intro w hSw
          (try dsimp only at hSw)
          go_simp
          try with_reducible rfl
        simp only [Act.put, List.setIfInBounds_toArray, List.set_cons_zero, List.set_cons_succ]
        refine hand_take (i := 22) (v := ?_) rfl (by kernel_rfl) (by kernel_rfl) (by kernel_rfl) (fun _ _ _ h => h) (Or.inl ⟨by rfl, ?_⟩) hHeld ?_
        rotate_left
        · intro w hSw
          (try dsimp only at hSw)
          go_simp
          try with_reducible rfl
        simp only [Act.put, List.setIfInBounds_toArray, List.set_cons_zero, List.set_cons_succ]
        refine hand_take (i := 23) (v := ?_) rfl (by kernel_rfl) (by kernel_rfl) (by kernel_rfl) (fun _ _ _ h => h) (Or.inl ⟨by rfl, ?_⟩) hHeld ?_
        rotate_left
        · intro w hSw
          (try dsimp only at hSw)
          go_simp
          try with_reducible rfl
        simp only [Act.put, List.setIfInBounds_toArray, List.set_cons_zero, List.set_cons_succ]
        refine hand_take (i := 24) (v := ?_) rfl (by kernel_rfl) (by kernel_rfl) (by kernel_rfl) (fun _ _ _ h => h) (Or.inl ⟨by rfl, ?_⟩) hHeld ?_
        rotate_left
        · intro w hSw
          (try dsimp only at hSw)
          go_simp
          try with_reducible rfl
        simp only [Act.put, List.setIfInBounds_toArray, List.set_cons_zero, List.set_cons_succ]
        refine hand_take (i := 25) (v := ?_) rfl (by kernel_rfl) (by kernel_rfl) (by kernel_rfl) (fun _ _ _ h => h) (Or.inl ⟨by rfl, ?_⟩) hHeld ?_
        rotate_left
        · intro w hSw
          (try dsimp only at hSw)
          go_simp
          try with_reducible rfl
        simp only [Act.put, List.setIfInBounds_toArray, List.set_cons_zero, List.set_cons_succ]
        refine hand_take (i := 26) (v := ?_) rfl (by kernel_rfl) (by kernel_rfl) (by kernel_rfl) (fun _ _ _ h => h) (Or.inl ⟨by rfl, ?_⟩) hHeld ?_
        rotate_left
        · intro w hSw
          (try dsimp only at hSw)
          go_simp
          try with_reducible rfl
        simp only [Act.put, List.setIfInBounds_toArray, List.set_cons_zero, List.set_cons_succ]
        refine hand_take (i := 27) (v := ?_) rfl (by kernel_rfl) (by kernel_rfl) (by kernel_rfl) (fun _ _ _ h => h) (Or.inl ⟨by rfl, ?_⟩) hHeld ?_
        rotate_left
        · intro w hSw
          (try dsimp only at hSw)
          go_simp
          try with_reducible rfl
        simp only [Act.put, List.setIfInBounds_toArray, List.set_cons_zero, List.set_cons_succ]
        refine hand_take (i := 28) (v := undef) rfl (by kernel_rfl) (by kernel_rfl) (by kernel_rfl) (fun _ _ _ h => h) (Or.inr ⟨by rfl, rfl⟩) hHeld ?_
        simp only [Act.put, List.setIfInBounds_toArray, List.set_cons_zero, List.set_cons_succ]
        refine hand_take (i := 29) (v := ?_) rfl (by kernel_rfl) (by kernel_rfl) (by kernel_rfl) (fun _ _ _ h => h) (Or.inl ⟨by rfl, ?_⟩) hHeld ?_
        rotate_left
        · intro w hSw
          (try dsimp only at hSw)
          go_simp
          try with_reducible rfl
        simp only [Act.put, List.setIfInBounds_toArray, List.set_cons_zero, List.set_cons_succ]
        refine hand_take (i := 30) (v := ?_) rfl (by kernel_rfl) (by kernel_rfl) (by kernel_rfl) (fun _ _ _ h => h) (Or.inl ⟨by rfl, ?_⟩) hHeld ?_
        rotate_left
        · intro w hSw
          (try dsimp only at hSw)
          go_simp
          try with_reducible rfl
        simp only [Act.put, List.setIfInBounds_toArray, List.set_cons_zero, List.set_cons_succ]
        refine hand_take (i := 31) (v := ?_) rfl (by kernel_rfl) (by kernel_rfl) (by kernel_rfl) (fun _ _ _ h => h) (Or.inl ⟨by rfl, ?_⟩) hHeld ?_
        rotate_left
        · intro w hSw
          (try dsimp only at hSw)
          go_simp
          try with_reducible rfl
        simp only [Act.put, List.setIfInBounds_toArray, List.set_cons_zero, List.set_cons_succ]
        refine wpAnyH_done (by kernel_rfl) ?_ _
        clear hHeld
        go_wp2_with fail
        go_ret
        exact ⟨rfl, Q9.out⟩
      · have hac : ac = true := HT.out rfl rfl
        subst hac
        clear HT
        first | go_region_held3 (fun w' => w'.cell? ⟨A, 0, none⟩ = some (.int .i64 k1) ∧ w'.cell? ⟨A, 1, none⟩ = some (.string ⟨s1.toArray⟩) ∧ w'.cell? ⟨A + 1, 0, none⟩ = some (.int .i64 k2) ∧ w'.cell? ⟨A + 1, 1, none⟩ = some (.string ⟨s2.toArray⟩) ∧ w'.cell? ⟨A + 1 + 1, 0, none⟩ = some (.int .i64 k3) ∧ w'.cell? ⟨A + 1 + 1, 1, none⟩ = some (.string ⟨s3.toArray⟩)) (first | exact ⟨x0, x1, y0, y1, z0, z1⟩ | exact ⟨xa0, xa1, ya0, ya1, za0, za1⟩ | exact ⟨xb0, xb1, yb0, yb1, zb0, zb1⟩ | exact ⟨xc0, xc1, yc0, yc1, zc0, zc1⟩ | exact ⟨xd0, xd1, yd0, yd1, zd0, zd1⟩ | assumption)
          (first
           | (go_at_call 26; (with_reducible refine (H6.out _).mono ?_); rintro e w6 ⟨rfl, q⟩; have Q6 := Lib.hid (bthen Q5.out.drew q); have X6 := Lib.hid ((X5.out.drewN 1).below q (X5.out.drewN 1).lt); have Y6 := Lib.hid ((Y5.out.drewN 1).below q (Y5.out.drewN 1).lt); have Z6 := Lib.hid ((Z5.out.drewN 1).below q (Z5.out.drewN 1).lt); clear q; obtain ⟨xa0, xa1, xal, xaf⟩ := X6.out.cells2; obtain ⟨ya0, ya1, yal, yaf⟩ := Y6.out.cells2; obtain ⟨za0, za1, zal, zaf⟩ := Z6.out.cells2)
           | (go_at_call 25; (with_reducible refine (H4.out _ Q6.out).mono ?_); rintro e w7 ⟨rfl, q⟩; have Q7 := Lib.hid (bthen Q6.out q); have X7 := Lib.hid (X6.out.below q X6.out.lt); have Y7 := Lib.hid (Y6.out.below q Y6.out.lt); have Z7 := Lib.hid (Z6.out.below q Z6.out.lt); clear q; obtain ⟨xb0, xb1, xbl, xbf⟩ := X7.out.cells2; obtain ⟨yb0, yb1, ybl, ybf⟩ := Y7.out.cells2; obtain ⟨zb0, zb1, zbl, zbf⟩ := Z7.out.cells2)
           | (go_at_call 25; (with_reducible refine (H5.out _ Q7.out).mono ?_); rintro e w8 ⟨rfl, q⟩; have Q8 := Lib.hid (bthen Q7.out q); have X8 := Lib.hid (X7.out.below q X7.out.lt); have Y8 := Lib.hid (Y7.out.below q Y7.out.lt); have Z8 := Lib.hid (Z7.out.below q Z7.out.lt); clear q; obtain ⟨xc0, xc1, xcl, xcf⟩ := X8.out.cells2; obtain ⟨yc0, yc1, ycl, ycf⟩ := Y8.out.cells2; obtain ⟨zc0, zc1, zcl, zcf⟩ := Z8.out.cells2)
           | (go_at_call 13; (with_reducible refine (H7.out _).mono ?_); rintro e w9 ⟨rfl, q⟩; have Q9 := Lib.hid (bthen Q8.out q); have X9 := Lib.hid (X8.out.below q X8.out.lt); have Y9 := Lib.hid (Y8.out.below q Y8.out.lt); have Z9 := Lib.hid (Z8.out.below q Z8.out.lt); clear q; obtain ⟨xd0, xd1, xdl, xdf⟩ := X9.out.cells2; obtain ⟨yd0, yd1, ydl, ydf⟩ := Y9.out.cells2; obtain ⟨zd0, zd1, zdl, zdf⟩ := Z9.out.cells2)) | fail
        all_goals
          go_wp2_with fail
          go_ret
          exact ⟨rfl, Q9.out⟩
  · have hz2 : 1000 < m1 ∨ 1000 < m2 ∨ 1000 < m3 := by omega
    rcases hz2 with i1 | i1 | i1
    · have i2 : (1000 : Int) < m1 := by omega
      go_wp2_with fail
      all_goals
        with_reducible refine (HA.out _ Q2.out).mono ?_
        rintro e w3 ⟨rfl, q⟩
        clear x0 x1 xl xf y0 y1 yl yf z0 z1 zl zf
        have Q3 := Lib.hid (bthen Q2.out q)
        have X3 := Lib.hid (X2.out.below q X2.out.lt)
        have Y3 := Lib.hid (Y2.out.below q Y2.out.lt)
        have Z3 := Lib.hid (Z2.out.below q Z2.out.lt)
        clear q 
        obtain ⟨x0, x1, xl, xf⟩ := X3.out.cells2
        obtain ⟨y0, y1, yl, yf⟩ := Y3.out.cells2
        obtain ⟨z0, z1, zl, zf⟩ := Z3.out.cells2
        go_wp2_with fail
        go_ret
        exact ⟨rfl, Q3.out⟩
    · have i2 : (1000 : Int) < m2 := by omega
      go_wp2_with fail
      all_goals
        with_reducible refine (HA.out _ Q2.out).mono ?_
        rintro e w3 ⟨rfl, q⟩
        clear x0 x1 xl xf y0 y1 yl yf z0 z1 zl zf
        have Q3 := Lib.hid (bthen Q2.out q)
        have X3 := Lib.hid (X2.out.below q X2.out.lt)
        have Y3 := Lib.hid (Y2.out.below q Y2.out.lt)
        have Z3 := Lib.hid (Z2.out.below q Z2.out.lt)
        clear q 
        obtain ⟨x0, x1, xl, xf⟩ := X3.out.cells2
        obtain ⟨y0, y1, yl, yf⟩ := Y3.out.cells2
        obtain ⟨z0, z1, zl, zf⟩ := Z3.out.cells2
        go_wp2_with fail
        go_ret
        exact ⟨rfl, Q3.out⟩
    · have i2 : (1000 : Int) < m3 := by omega
      go_wp2_with fail
      all_goals
        with_reducible refine (HA.out _ Q2.out).mono ?_
        rintro e w3 ⟨rfl, q⟩
        clear x0 x1 xl xf y0 y1 yl yf z0 z1 zl zf
        have Q3 := Lib.hid (bthen Q2.out q)
        have X3 := Lib.hid (X2.out.below q X2.out.lt)
        have Y3 := Lib.hid (Y2.out.below q Y2.out.lt)
        have Z3 := Lib.hid (Z2.out.below q Z2.out.lt)
        clear q 
        obtain ⟨x0, x1, xl, xf⟩ := X3.out.cells2
        obtain ⟨y0, y1, yl, yf⟩ := Y3.out.cells2
        obtain ⟨z0, z1, zl, zf⟩ := Z3.out.cells2
        go_wp2_with fail
        go_ret
        exact ⟨rfl, Q3.out⟩
end Go.Proofs.YtkmpmphabohkkaaDoor.charsetSame
