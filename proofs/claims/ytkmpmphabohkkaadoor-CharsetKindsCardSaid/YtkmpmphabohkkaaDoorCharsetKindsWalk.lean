/-
  The walk of the law CharsetKinds.
-/
import Derived.Test.YtkmpmphabohkkaaDoorChAwake
namespace Go.Proofs.YtkmpmphabohkkaaDoor.charsetKinds
open Go.RowKit

/-- the same characters as a string of two valid kinds -/
theorem same_kinds {k m : Int} {s : List UInt8} (h1 : vT k s = true) (h2 : vT m s = true) : sameT k s m s = true ∧ lenT k s = lenT m s := by
  constructor
  · unfold sameT
    rw [h1, h2]
    simp
  · unfold lenT
    rw [h1, h2]
theorem same_no1 {k m : Int} {s : List UInt8} (h1 : vT k s = false) : sameT k s m s = false := by
  unfold sameT
  rw [h1]
  simp
theorem same_no2 {k m : Int} {s : List UInt8} (h1 : vT m s = false) : sameT k s m s = false := by
  unfold sameT
  rw [h1]
  simp

set_option maxRecDepth 100000 in
set_option maxHeartbeats 4000000 in
theorem walk {w : World} (hWd : Wd w) {s : List UInt8} {k1 k2 : Int} :
    Calls Tryd.prog 7 #[.string ⟨s.toArray⟩, .agg #[.int .i64 k1, .int .i64 k2]] w fun e w' => e = .returned (.bool true) ∧ Below w.heap.size w w' := by
  have HW := Lib.hid hWd
  clear hWd
  have HA := Lib.hid (fun v (hq : Below w.heap.size w v) => awakeCh_any v (HW.out.below hq))
  obtain ⟨m, hm⟩ : ∃ m, s.length = m := ⟨_, rfl⟩
  have hs : (⟨s.toArray⟩ : ByteArray).size = m := by rw [← hm]; rfl
  obtain ⟨A, hA⟩ : ∃ A, w.heap.size = A := ⟨_, rfl⟩
  have Q1 := Lib.hid (bal (Below.refl w.heap.size w) (.cells #[.int .i64 k1, .int .i64 k2] 43))
  have Z1 := Lib.hid (Blk.new w 43 #[.int .i64 k1, .int .i64 k2])
  rw [hA] at Z1
  go_enter Tryd.func7, Tryd.ntmps7
  go_wp2_with fail
  generalize w.alloc (.cells #[.int .i64 k1, .int .i64 k2] 43) = w1 at *
  clear hA
  obtain ⟨z0, z1, zl, zf⟩ := Z1.out.cells2
  with_reducible refine (HA.out _ Q1.out).mono ?_
  rintro e w2 ⟨rfl, q⟩
  clear z0 z1 zl zf
  have Q2 := Lib.hid (bthen Q1.out q)
  have Z2 := Lib.hid (Z1.out.below q Z1.out.lt)
  clear q 
  obtain ⟨z0, z1, zl, zf⟩ := Z2.out.cells2
  by_cases hz : m ≤ 1000
  · have hz2 : ¬ (1000 : Int) < m := by omega
    have H1 := Lib.hid (fun w => ref_tvalid_any k1 s (by omega) w)
    have H2 := Lib.hid (fun w => ref_tvalid_any k2 s (by omega) w)
    have H3 := Lib.hid (fun v (hq : Below w.heap.size w v) => same7_any k1 s k2 s (by omega) (by omega) v (HW.out.below hq))
    have H4 := Lib.hid (fun v (hq : Below w.heap.size w v) => tlen_any k1 s (by omega) v (HW.out.below hq))
    have H5 := Lib.hid (fun v (hq : Below w.heap.size w v) => tlen_any k2 s (by omega) v (HW.out.below hq))
    have HN1 := Lib.hid (fun h => same_no1 (k := k1) (m := k2) (s := s) h)
    have HN2 := Lib.hid (fun h => same_no2 (k := k1) (m := k2) (s := s) h)
    have HY := Lib.hid (fun h h2 => same_kinds (k := k1) (m := k2) (s := s) h h2)
    unfold tV at H1 H2 H3 H4 H5
    generalize vT k1 s = va at *
    generalize vT k2 s = vb at *
    generalize sameT k1 s k2 s = r at *
    generalize lenT k1 s = l1 at *
    generalize lenT k2 s = l2 at *
    clear hm
    go_wp2_with fail
    obtain ⟨G, hG⟩ : ∃ G, w2.heap.size = G := ⟨_, rfl⟩
    have zG := hltB zl hG
    have hG2 : (w2.alloc (.cells #[.int .i64 k1, .string ⟨s.toArray⟩] 23)).heap.size = G + 1 := by simp [hG]
    clear z0 z1 zl zf
    have Q3 := Lib.hid (bal Q2.out (.cells #[.int .i64 k1, .string ⟨s.toArray⟩] 23))
    have Z3 := Lib.hid (Z2.out.alloc (.cells #[.int .i64 k1, .string ⟨s.toArray⟩] 23))
    have X3 := Lib.hid (Blk.new w2 23 #[.int .i64 k1, .string ⟨s.toArray⟩])
    rw [hG] at X3
    generalize w2.alloc (.cells #[.int .i64 k1, .string ⟨s.toArray⟩] 23) = w3 at *
    obtain ⟨z0, z1, zl, zf⟩ := Z3.out.cells2
    obtain ⟨x0, x1, xl, xf⟩ := X3.out.cells2
    clear z0 z1 zl zf x0 x1 xl xf
    have Q4 := Lib.hid (bal Q3.out (.cells #[.int .i64 k2, .string ⟨s.toArray⟩] 23))
    have Z4 := Lib.hid (Z3.out.alloc (.cells #[.int .i64 k2, .string ⟨s.toArray⟩] 23))
    have X4 := Lib.hid (X3.out.alloc (.cells #[.int .i64 k2, .string ⟨s.toArray⟩] 23))
    have Y4 := Lib.hid (Blk.new w3 23 #[.int .i64 k2, .string ⟨s.toArray⟩])
    rw [hG2] at Y4
    generalize w3.alloc (.cells #[.int .i64 k2, .string ⟨s.toArray⟩] 23) = w4 at *
    obtain ⟨z0, z1, zl, zf⟩ := Z4.out.cells2
    obtain ⟨x0, x1, xl, xf⟩ := X4.out.cells2
    obtain ⟨y0, y1, yl, yf⟩ := Y4.out.cells2
    rcases va with _ | _
    · obtain rfl : r = false := HN1.out rfl
      clear HN1 HN2 HY
      with_reducible refine (H1.out _).mono ?_
      rintro e w5 ⟨rfl, q⟩
      clear z0 z1 zl zf x0 x1 xl xf y0 y1 yl yf
      have Q5 := Lib.hid (bthen Q4.out q)
      have Z5 := Lib.hid (Z4.out.below q Z4.out.lt)
      have X5 := Lib.hid (X4.out.below q X4.out.lt)
      have Y5 := Lib.hid (Y4.out.below q Y4.out.lt)
      clear q 
      obtain ⟨z0, z1, zl, zf⟩ := Z5.out.cells2
      obtain ⟨x0, x1, xl, xf⟩ := X5.out.cells2
      obtain ⟨y0, y1, yl, yf⟩ := Y5.out.cells2
      go_wp2_with fail
      with_reducible refine (H3.out _ Q5.out).mono ?_
      rintro e w6 ⟨rfl, q⟩
      clear z0 z1 zl zf x0 x1 xl xf y0 y1 yl yf
      have Q6 := Lib.hid (bthen Q5.out q)
      have Z6 := Lib.hid (Z5.out.below q Z5.out.lt)
      have X6 := Lib.hid (X5.out.below q X5.out.lt)
      have Y6 := Lib.hid (Y5.out.below q Y5.out.lt)
      clear q 
      obtain ⟨z0, z1, zl, zf⟩ := Z6.out.cells2
      obtain ⟨x0, x1, xl, xf⟩ := X6.out.cells2
      obtain ⟨y0, y1, yl, yf⟩ := Y6.out.cells2
      go_wp2_with fail
      go_ret
      exact ⟨rfl, Q6.out⟩
    · rcases vb with _ | _
      · obtain rfl : r = false := HN2.out rfl
        clear HN1 HN2 HY
        with_reducible refine (H1.out _).mono ?_
        rintro e w5 ⟨rfl, q⟩
        clear z0 z1 zl zf x0 x1 xl xf y0 y1 yl yf
        have Q5 := Lib.hid (bthen Q4.out q)
        have Z5 := Lib.hid (Z4.out.below q Z4.out.lt)
        have X5 := Lib.hid (X4.out.below q X4.out.lt)
        have Y5 := Lib.hid (Y4.out.below q Y4.out.lt)
        clear q 
        obtain ⟨z0, z1, zl, zf⟩ := Z5.out.cells2
        obtain ⟨x0, x1, xl, xf⟩ := X5.out.cells2
        obtain ⟨y0, y1, yl, yf⟩ := Y5.out.cells2
        go_wp2_with fail
        with_reducible refine (H2.out _).mono ?_
        rintro e w6 ⟨rfl, q⟩
        clear z0 z1 zl zf x0 x1 xl xf y0 y1 yl yf
        have Q6 := Lib.hid (bthen Q5.out q)
        have Z6 := Lib.hid (Z5.out.below q Z5.out.lt)
        have X6 := Lib.hid (X5.out.below q X5.out.lt)
        have Y6 := Lib.hid (Y5.out.below q Y5.out.lt)
        clear q 
        obtain ⟨z0, z1, zl, zf⟩ := Z6.out.cells2
        obtain ⟨x0, x1, xl, xf⟩ := X6.out.cells2
        obtain ⟨y0, y1, yl, yf⟩ := Y6.out.cells2
        go_wp2_with fail
        with_reducible refine (H3.out _ Q6.out).mono ?_
        rintro e w7 ⟨rfl, q⟩
        clear z0 z1 zl zf x0 x1 xl xf y0 y1 yl yf
        have Q7 := Lib.hid (bthen Q6.out q)
        have Z7 := Lib.hid (Z6.out.below q Z6.out.lt)
        have X7 := Lib.hid (X6.out.below q X6.out.lt)
        have Y7 := Lib.hid (Y6.out.below q Y6.out.lt)
        clear q 
        obtain ⟨z0, z1, zl, zf⟩ := Z7.out.cells2
        obtain ⟨x0, x1, xl, xf⟩ := X7.out.cells2
        obtain ⟨y0, y1, yl, yf⟩ := Y7.out.cells2
        go_wp2_with fail
        go_ret
        exact ⟨rfl, Q7.out⟩
      · obtain ⟨rfl, rfl⟩ := HY.out rfl rfl
        clear HN1 HN2 HY
        with_reducible refine (H1.out _).mono ?_
        rintro e w5 ⟨rfl, q⟩
        clear z0 z1 zl zf x0 x1 xl xf y0 y1 yl yf
        have Q5 := Lib.hid (bthen Q4.out q)
        have Z5 := Lib.hid (Z4.out.below q Z4.out.lt)
        have X5 := Lib.hid (X4.out.below q X4.out.lt)
        have Y5 := Lib.hid (Y4.out.below q Y4.out.lt)
        clear q 
        obtain ⟨z0, z1, zl, zf⟩ := Z5.out.cells2
        obtain ⟨x0, x1, xl, xf⟩ := X5.out.cells2
        obtain ⟨y0, y1, yl, yf⟩ := Y5.out.cells2
        go_wp2_with fail
        with_reducible refine (H2.out _).mono ?_
        rintro e w6 ⟨rfl, q⟩
        clear z0 z1 zl zf x0 x1 xl xf y0 y1 yl yf
        have Q6 := Lib.hid (bthen Q5.out q)
        have Z6 := Lib.hid (Z5.out.below q Z5.out.lt)
        have X6 := Lib.hid (X5.out.below q X5.out.lt)
        have Y6 := Lib.hid (Y5.out.below q Y5.out.lt)
        clear q 
        obtain ⟨z0, z1, zl, zf⟩ := Z6.out.cells2
        obtain ⟨x0, x1, xl, xf⟩ := X6.out.cells2
        obtain ⟨y0, y1, yl, yf⟩ := Y6.out.cells2
        go_wp2_with fail
        clear z0 z1 zl zf
        first | go_region_held3 (fun w' => w'.cell? ⟨G, 0, none⟩ = some (.int .i64 k1) ∧ w'.cell? ⟨G, 1, none⟩ = some (.string ⟨s.toArray⟩) ∧ w'.cell? ⟨G + 1, 0, none⟩ = some (.int .i64 k2) ∧ w'.cell? ⟨G + 1, 1, none⟩ = some (.string ⟨s.toArray⟩)) (first | exact ⟨x0, x1, y0, y1⟩ | exact ⟨xa0, xa1, ya0, ya1⟩ | exact ⟨xb0, xb1, yb0, yb1⟩ | exact ⟨xc0, xc1, yc0, yc1⟩ | assumption)
          (first
           | (go_at_call 25; (with_reducible refine (H3.out _ Q6.out.drew).mono ?_); rintro e w7 ⟨rfl, q⟩; have Q7 := Lib.hid (bthen Q6.out.drew q); have X7 := Lib.hid ((X6.out.drewN 1).below q (X6.out.drewN 1).lt); have Y7 := Lib.hid ((Y6.out.drewN 1).below q (Y6.out.drewN 1).lt); clear q; obtain ⟨xa0, xa1, xal, xaf⟩ := X7.out.cells2; obtain ⟨ya0, ya1, yal, yaf⟩ := Y7.out.cells2)
           | (go_at_call 14; (with_reducible refine (H4.out _ Q7.out).mono ?_); rintro e w8 ⟨rfl, q⟩; have Q8 := Lib.hid (bthen Q7.out q); have X8 := Lib.hid (X7.out.below q X7.out.lt); have Y8 := Lib.hid (Y7.out.below q Y7.out.lt); clear q; obtain ⟨xb0, xb1, xbl, xbf⟩ := X8.out.cells2; obtain ⟨yb0, yb1, ybl, ybf⟩ := Y8.out.cells2)
           | (go_at_call 14; (with_reducible refine (H5.out _ Q8.out).mono ?_); rintro e w9 ⟨rfl, q⟩; have Q9 := Lib.hid (bthen Q8.out q); have X9 := Lib.hid (X8.out.below q X8.out.lt); have Y9 := Lib.hid (Y8.out.below q Y8.out.lt); clear q; obtain ⟨xc0, xc1, xcl, xcf⟩ := X9.out.cells2; obtain ⟨yc0, yc1, ycl, ycf⟩ := Y9.out.cells2)) | fail
        all_goals
          go_wp2_with fail
          go_ret
          exact ⟨rfl, Q9.out⟩
  · have hz2 : (1000 : Int) < m := by omega
    go_wp2_with fail
    with_reducible refine (HA.out _ Q2.out).mono ?_
    rintro e w3 ⟨rfl, q⟩
    clear z0 z1 zl zf
    have Q3 := Lib.hid (bthen Q2.out q)
    have Z3 := Lib.hid (Z2.out.below q Z2.out.lt)
    clear q 
    obtain ⟨z0, z1, zl, zf⟩ := Z3.out.cells2
    go_wp2_with fail
    go_ret
    exact ⟨rfl, Q3.out⟩
end Go.Proofs.YtkmpmphabohkkaaDoor.charsetKinds
