/-
  Contract of the reference's FromSeconds.
-/
import Derived.Test.YtneeddbonhiflaaDoorClSec
import Derived.Test.YtneeddbonhiflaaDoorClFld
import Derived.Test.YtneeddbonhiflaaDoorClDec
import Derived.LoopTactic
import Derived.BigRegion
import Derived.BigQuiet
namespace Go.Proofs.YtneeddbonhiflaaDoor
open Go.RowKit

theorem dno_jan (y : Int) : dno y 1 1 = 365 * (y + 399) + (y + 399) / 4 - (y + 399) / 100 + (y + 399) / 400 + 306 - 146097 - 719468 := by
  unfold dno
  rw [if_pos (by omega)]
  omega
theorem jan_le {a b : Int} (h : a ≤ b) : dno a 1 1 ≤ dno b 1 1 := by rw [dno_jan, dno_jan]; omega
theorem sec_jan {y : Int} (h0 : 0 ≤ y) (h1 : y ≤ 9999) : secE ⟨y, 1, 1, 0, 0, 0⟩ = (dno y 1 1 * 86400, 0) := by
  have hd : dys y 1 = 31 := dys_31 (by omega) (by omega)
  have hok : okT ⟨y, 1, 1, 0, 0, 0⟩ = true := okT_iff.2 (by dsimp only; omega)
  unfold secE
  rw [if_pos hok]
  unfold secT
  dsimp only
  rw [show (0 : Int) * 3600 + 0 * 60 + 0 = 0 from rfl, Int.add_zero]
theorem sec_first : secE ⟨0, 1, 1, 0, 0, 0⟩ = (-62167219200, 0) := by decide
theorem sec_last : secE ⟨9999, 12, 31, 23, 59, 59⟩ = (253402300799, 0) := by decide
/-- the next day is in this month, or the first of the next -/
theorem day_step {y m d : Int} (hy : 0 ≤ y ∧ y ≤ 9999) (hm : 1 ≤ m ∧ m ≤ 12) (hd : 1 ≤ d ∧ d ≤ dys y m) (hl : dno y m d + 1 < dno (y + 1) 1 1) :
    (dys y m < d + 1 → m + 1 ≤ 12 ∧ 1 ≤ dys y (m + 1) ∧ dno y (m + 1) 1 = dno y m d + 1) ∧ dno y m (d + 1) = dno y m d + 1 := by
  refine ⟨fun h => ?_, by rw [dno_day y m (d + 1), dno_day y m d]; omega⟩
  have e := dno_day y m d
  have hm12 : m ≠ 12 := by
    rintro rfl
    have e2 := dno_year y
    have e3 : dys y 12 = 31 := dys_31 (by omega) (by omega)
    omega
  have e4 := dno_month hy (m := m) (by omega)
  refine ⟨by omega, ?_, by omega⟩
  have e5 : 0 < dys y (m + 1) := by
    unfold dys
    rw [if_neg (by omega)]
    split
    · omega
    split
    · omega
    split
    · split <;> omega
    · omega
  omega

theorem sec_at {y m d n : Int} (hd : 1 ≤ d ∧ d ≤ dys y m) (h0 : dno y m d * 86400 ≤ n) (h1 : n < dno y m d * 86400 + 86400) :
    okT ⟨y, m, d, (n - dno y m d * 86400) / 3600, (n - dno y m d * 86400) % 3600 / 60, (n - dno y m d * 86400) % 60⟩ = true ∧ secT ⟨y, m, d, (n - dno y m d * 86400) / 3600, (n - dno y m d * 86400) % 3600 / 60, (n - dno y m d * 86400) % 60⟩ = n := by
  constructor
  · refine okT_iff.2 ⟨hd, ?_, ?_, ?_⟩ <;> dsimp only <;> omega
  · unfold secT
    dsimp only
    omega

set_option maxRecDepth 100000 in
set_option maxHeartbeats 16000000 in
theorem from_any (n : Int) (hn : -9223372036854775808 ≤ n ∧ n ≤ 9223372036854775807) (w : World) :
    Calls Tryd.prog 25 #[.int .i64 n] w fun e w' => (∃ T k, e = .returned (.tuple #[tmV T, .int .i64 k]) ∧ ((n < -62167219200 ∨ 253402300799 < n) → T = tm0 ∧ k = 9) ∧ (-62167219200 ≤ n ∧ n ≤ 253402300799 → okT T = true ∧ secT T = n ∧ k = 0)) ∧ Below w.heap.size w w' := by
  obtain ⟨H, hH⟩ : ∃ H, w.heap.size = H := ⟨_, rfl⟩
  have S1 := Lib.hid (fun v => seconds_any ⟨0, 1, 1, 0, 0, 0⟩ v)
  have S2 := Lib.hid (fun v => seconds_any ⟨9999, 12, 31, 23, 59, 59⟩ v)
  rw [sec_first] at S1
  rw [sec_last] at S2
  unfold tmV at S1 S2 ⊢
  dsimp only at S1 S2
  by_cases hlo : n < -62167219200
  · go_enter Tryd.func25, Tryd.ntmps25
    go_wp2_with fail
    have Q1 : Hid (Below H w (w.alloc (.cells #[.int .i64 0, .int .i64 0, .int .i64 0, .int .i64 0, .int .i64 0, .int .i64 0] 23))) := by rw [← hH]; exact bal (Below.refl _ _) _
    have Z1 : Hid (Blk (w.alloc (.cells #[.int .i64 0, .int .i64 0, .int .i64 0, .int .i64 0, .int .i64 0, .int .i64 0] 23)) H 23 #[.int .i64 0, .int .i64 0, .int .i64 0, .int .i64 0, .int .i64 0, .int .i64 0]) := by rw [← hH]; exact Blk.new _ _ _
    generalize w.alloc (.cells #[.int .i64 0, .int .i64 0, .int .i64 0, .int .i64 0, .int .i64 0, .int .i64 0] 23) = w1 at *
    with_reducible refine (S1.out _).mono ?_
    rintro e w2 ⟨rfl, q⟩
    have Z2 := Lib.hid (Z1.out.below q Z1.out.lt)
    have Q2 : Hid (Below H w w2) := by rw [← hH]; exact bthen (by rw [hH]; exact Q1.out) q
    clear q
    go_wp2_with fail
    with_reducible refine (S2.out _).mono ?_
    rintro e w3 ⟨rfl, q⟩
    have Z3 := Lib.hid (Z2.out.below q Z2.out.lt)
    have Q3 : Hid (Below H w w3) := by rw [← hH]; exact bthen (by rw [hH]; exact Q2.out) q
    clear q
    obtain ⟨z0, z1, z2, z3, z4, z5⟩ := Z3.out.cells6
    have zl := Z3.out.lt
    have zf := Z3.out.frozen
    have ZF := Lib.hid (Z3.out.six (.int .i64 0) (.int .i64 0) (.int .i64 0) (.int .i64 0) (.int .i64 0) (.int .i64 0))
    have QF := Lib.hid (below_six Q3.out (Nat.le_refl H) (.int .i64 0) (.int .i64 0) (.int .i64 0) (.int .i64 0) (.int .i64 0) (.int .i64 0))
    go_wp2_with fail
    obtain ⟨y0, y1, y2, y3, y4, y5⟩ := ZF.out.cells6
    have q := QF.out
    generalize (((((w3.setCell ⟨H, 0, none⟩ (.int .i64 0)).setCell ⟨H, 1, none⟩ (.int .i64 0)).setCell ⟨H, 2, none⟩ (.int .i64 0)).setCell ⟨H, 3, none⟩ (.int .i64 0)).setCell ⟨H, 4, none⟩ (.int .i64 0)).setCell ⟨H, 5, none⟩ (.int .i64 0) = w9 at *
    exact bodyPost_ret (v := .tuple #[.agg #[.int .i64 0, .int .i64 0, .int .i64 0, .int .i64 0, .int .i64 0, .int .i64 0], .int .i64 9]) (by simp [results, Tryd.results25, go_sem, y0, y1, y2, y3, y4, y5]) rfl ⟨⟨tm0, 9, rfl, fun _ => ⟨rfl, rfl⟩, fun h => by omega⟩, by first | exact q | (rw [hH]; exact q)⟩
  by_cases hhi : 253402300799 < n
  · go_enter Tryd.func25, Tryd.ntmps25
    go_wp2_with fail
    have Q1 : Hid (Below H w (w.alloc (.cells #[.int .i64 0, .int .i64 0, .int .i64 0, .int .i64 0, .int .i64 0, .int .i64 0] 23))) := by rw [← hH]; exact bal (Below.refl _ _) _
    have Z1 : Hid (Blk (w.alloc (.cells #[.int .i64 0, .int .i64 0, .int .i64 0, .int .i64 0, .int .i64 0, .int .i64 0] 23)) H 23 #[.int .i64 0, .int .i64 0, .int .i64 0, .int .i64 0, .int .i64 0, .int .i64 0]) := by rw [← hH]; exact Blk.new _ _ _
    generalize w.alloc (.cells #[.int .i64 0, .int .i64 0, .int .i64 0, .int .i64 0, .int .i64 0, .int .i64 0] 23) = w1 at *
    with_reducible refine (S1.out _).mono ?_
    rintro e w2 ⟨rfl, q⟩
    have Z2 := Lib.hid (Z1.out.below q Z1.out.lt)
    have Q2 : Hid (Below H w w2) := by rw [← hH]; exact bthen (by rw [hH]; exact Q1.out) q
    clear q
    go_wp2_with fail
    with_reducible refine (S2.out _).mono ?_
    rintro e w3 ⟨rfl, q⟩
    have Z3 := Lib.hid (Z2.out.below q Z2.out.lt)
    have Q3 : Hid (Below H w w3) := by rw [← hH]; exact bthen (by rw [hH]; exact Q2.out) q
    clear q
    obtain ⟨z0, z1, z2, z3, z4, z5⟩ := Z3.out.cells6
    have zl := Z3.out.lt
    have zf := Z3.out.frozen
    have ZF := Lib.hid (Z3.out.six (.int .i64 0) (.int .i64 0) (.int .i64 0) (.int .i64 0) (.int .i64 0) (.int .i64 0))
    have QF := Lib.hid (below_six Q3.out (Nat.le_refl H) (.int .i64 0) (.int .i64 0) (.int .i64 0) (.int .i64 0) (.int .i64 0) (.int .i64 0))
    go_wp2_with fail
    obtain ⟨y0, y1, y2, y3, y4, y5⟩ := ZF.out.cells6
    have q := QF.out
    generalize (((((w3.setCell ⟨H, 0, none⟩ (.int .i64 0)).setCell ⟨H, 1, none⟩ (.int .i64 0)).setCell ⟨H, 2, none⟩ (.int .i64 0)).setCell ⟨H, 3, none⟩ (.int .i64 0)).setCell ⟨H, 4, none⟩ (.int .i64 0)).setCell ⟨H, 5, none⟩ (.int .i64 0) = w9 at *
    exact bodyPost_ret (v := .tuple #[.agg #[.int .i64 0, .int .i64 0, .int .i64 0, .int .i64 0, .int .i64 0, .int .i64 0], .int .i64 9]) (by simp [results, Tryd.results25, go_sem, y0, y1, y2, y3, y4, y5]) rfl ⟨⟨tm0, 9, rfl, fun _ => ⟨rfl, rfl⟩, fun h => by omega⟩, by first | exact q | (rw [hH]; exact q)⟩
  go_enter Tryd.func25, Tryd.ntmps25
  go_wp2_with fail
  have Q1 : Hid (Below H w (w.alloc (.cells #[.int .i64 0, .int .i64 0, .int .i64 0, .int .i64 0, .int .i64 0, .int .i64 0] 23))) := by rw [← hH]; exact bal (Below.refl _ _) _
  have Z1 : Hid (Blk (w.alloc (.cells #[.int .i64 0, .int .i64 0, .int .i64 0, .int .i64 0, .int .i64 0, .int .i64 0] 23)) H 23 #[.int .i64 0, .int .i64 0, .int .i64 0, .int .i64 0, .int .i64 0, .int .i64 0]) := by rw [← hH]; exact Blk.new _ _ _
  generalize w.alloc (.cells #[.int .i64 0, .int .i64 0, .int .i64 0, .int .i64 0, .int .i64 0, .int .i64 0] 23) = w1 at *
  with_reducible refine (S1.out _).mono ?_
  rintro e w2 ⟨rfl, q⟩
  have Z2 := Lib.hid (Z1.out.below q Z1.out.lt)
  have Q2 : Hid (Below H w w2) := by rw [← hH]; exact bthen (by rw [hH]; exact Q1.out) q
  clear q
  go_wp2_with fail
  with_reducible refine (S2.out _).mono ?_
  rintro e w3 ⟨rfl, q⟩
  have Z3 := Lib.hid (Z2.out.below q Z2.out.lt)
  have Q3 : Hid (Below H w w3) := by rw [← hH]; exact bthen (by rw [hH]; exact Q2.out) q
  clear q
  obtain ⟨z0, z1, z2, z3, z4, z5⟩ := Z3.out.cells6
  have zl := Z3.out.lt
  have zf := Z3.out.frozen
  clear z0 z1 z2 z3 z4 z5 zl zf S1 S2
  go_wp2_with fail
  go_loopw [8, 9] (fun x y wr => ∃ lo hi : Int, 0 ≤ lo ∧ lo ≤ hi ∧ hi ≤ 9999 ∧ x = .int .i64 lo ∧ y = .int .i64 hi ∧ dno lo 1 1 * 86400 ≤ n ∧ n < dno (hi + 1) 1 1 * 86400 ∧ Blk wr H 23 #[.int .i64 0, .int .i64 0, .int .i64 0, .int .i64 0, .int .i64 0, .int .i64 0] ∧ Below H w wr) (fun x y _ => (intOf y - intOf x).toNat)
  case atStart => exact ⟨0, 9999, by omega, by omega, by omega, rfl, rfl, by rw [dno_jan]; omega, by rw [dno_jan]; omega, Z3.out, Q3.out⟩
  case round =>
    obtain ⟨lo, hi, b1, b2, b3, rfl, rfl, b4, b5, hz, hq⟩ := hrel
    have Z5 := Lib.hid hz
    have Q5 := Lib.hid hq
    have B4 := Lib.hid b4
    have B5 := Lib.hid b5
    clear hz hq b4 b5 Z3 Q3
    by_cases hlt : lo < hi
    · obtain ⟨mi, hmi⟩ : ∃ mi, (lo + hi + 1) / 2 = mi := ⟨_, rfl⟩
      have t1 : IntKind.i64.wrap (lo + hi) = lo + hi := wr_i64 (by omega)
      have t2 : IntKind.i64.wrap (lo + hi + 1) = lo + hi + 1 := wr_i64 (by omega)
      have t3 : (lo + hi + 1).tdiv 2 = mi := by rw [Int.tdiv_eq_ediv_of_nonneg (by omega)]; exact hmi
      have t4 : IntKind.i64.wrap mi = mi := wr_i64 (by omega)
      have t5 : IntKind.i64.wrap (mi - 1) = mi - 1 := wr_i64 (by omega)
      have SM := Lib.hid (fun v => seconds_any ⟨mi, 1, 1, 0, 0, 0⟩ v)
      rw [sec_jan (by omega) (by omega)] at SM
      unfold tmV at SM
      dsimp only at SM
      go_wp2_with fail
      with_reducible refine (SM.out _).mono ?_
      rintro e w6 ⟨rfl, q⟩
      have Z6 := Lib.hid (Z5.out.below q Z5.out.lt)
      have Q6 : Hid (Below H w w6) := by rw [← hH]; exact bthen (by rw [hH]; exact Q5.out) q
      clear q
      by_cases hle : dno mi 1 1 * 86400 ≤ n
      · go_wp2_with fail
        exact ⟨⟨mi, hi, by omega, by omega, b3, rfl, rfl, hle, B5.out, Z6.out, Q6.out⟩, by simp [intOf]; omega⟩
      · go_wp2_with fail
        exact ⟨⟨lo, mi - 1, b1, by omega, by omega, rfl, rfl, B4.out, by rw [Int.sub_add_cancel]; omega, Z6.out, Q6.out⟩, by simp [intOf]; omega⟩
    · obtain rfl : lo = hi := by omega
      have SM := Lib.hid (fun v => seconds_any ⟨lo, 1, 1, 0, 0, 0⟩ v)
      rw [sec_jan (by omega) (by omega)] at SM
      unfold tmV at SM
      dsimp only at SM
      have HG := Lib.hid Z5.out.lt
      obtain ⟨G, hG⟩ : ∃ G, wr.heap.size = G := ⟨_, rfl⟩
      go_wp2_with fail
      have Q7 := Lib.hid (Q5.out.alloc (Nat.le_of_lt HG.out) (.cells #[.int .i64 lo, .int .i64 1, .int .i64 1, .int .i64 0, .int .i64 0, .int .i64 0] 23))
      have Z7 := Lib.hid (Z5.out.alloc (.cells #[.int .i64 lo, .int .i64 1, .int .i64 1, .int .i64 0, .int .i64 0, .int .i64 0] 23))
      have K7 : Hid (Blk (wr.alloc (.cells #[.int .i64 lo, .int .i64 1, .int .i64 1, .int .i64 0, .int .i64 0, .int .i64 0] 23)) G 23 #[.int .i64 lo, .int .i64 1, .int .i64 1, .int .i64 0, .int .i64 0, .int .i64 0]) := by rw [← hG]; exact Blk.new _ _ _
      have HL : Hid (H < G) := by rw [Hid, ← hG]; exact HG.out
      generalize wr.alloc (.cells #[.int .i64 lo, .int .i64 1, .int .i64 1, .int .i64 0, .int .i64 0, .int .i64 0] 23) = w7 at *
      with_reducible refine (SM.out _).mono ?_
      rintro e w8 ⟨rfl, q⟩
      have Z8 := Lib.hid (Z7.out.below q Z7.out.lt)
      have K8 := Lib.hid (K7.out.below q K7.out.lt)
      have Q8 : Hid (Below H w w8) := by rw [← hH]; exact bthen (by rw [hH]; exact Q7.out) q
      clear q hG HG SM Z5 Q5 Z7 Q7 K7 hlt
      have J0 : Hid (-719528 ≤ dno lo 1 1) := by rw [Hid, dno_jan]; omega
      have hd1 : dys lo 1 = 31 := dys_31 (by omega) (by omega)
      go_wp2_with fail
      go_loopw [14] (fun x wr => ∃ m d : Int, 1 ≤ m ∧ m ≤ 12 ∧ 1 ≤ d ∧ d ≤ dys lo m ∧ -719528 ≤ dno lo m d ∧ x = .int .i64 (dno lo m d * 86400) ∧ dno lo m d * 86400 ≤ n ∧ Blk wr G 23 #[.int .i64 lo, .int .i64 m, .int .i64 d, .int .i64 0, .int .i64 0, .int .i64 0] ∧ Blk wr H 23 #[.int .i64 0, .int .i64 0, .int .i64 0, .int .i64 0, .int .i64 0, .int .i64 0] ∧ Below H w wr) (fun x _ => (n - intOf x).toNat)
      case atStart => exact ⟨1, 1, by omega, by omega, by omega, by omega, J0.out, rfl, B4.out, K8.out, Z8.out, Q8.out⟩
      case round =>
        obtain ⟨m, d, c1, c2, c3, c4, c5, rfl, c6, hk, hz, hq⟩ := hrel
        have K := Lib.hid hk
        have Z := Lib.hid hz
        have Q := Lib.hid hq
        have hGH : ¬ G = H := by have := HL.out; omega
        have hHG : ¬ H = G := by have := HL.out; omega
        clear hk hz hq K8 Z8 Q8 J0 B4 hd1
        have hb5 := B5.out
        have HST := Lib.hid (fun hl => day_step (y := lo) (m := m) (d := d) ⟨b1, b3⟩ ⟨c1, c2⟩ ⟨c3, c4⟩ hl)
        have HAT := Lib.hid (fun h0 h1 => sec_at (y := lo) (m := m) (d := d) (n := n) ⟨c3, c4⟩ h0 h1)
        have hdd := dys_le lo m
        have hjan := jan_le (a := lo + 1) (b := 10000) (by omega)
        obtain ⟨k0, k1, k2, k3, k4, k5⟩ := K.out.cells6
        have kl := K.out.lt
        have kf := K.out.frozen
        have hub : dno lo m d ≤ 2932897 := by omega
        have t1 : IntKind.i64.wrap (n - dno lo m d * 86400) = n - dno lo m d * 86400 := wr_i64 (by omega)
        by_cases hge : 86400 ≤ n - dno lo m d * 86400
        · have hst := HST.out (by omega)
          have t2 : IntKind.i64.wrap (d + 1) = d + 1 := wr_i64 (by omega)
          have t3 : IntKind.i64.wrap (m + 1) = m + 1 := wr_i64 (by omega)
          have t4 : IntKind.i64.wrap (dno lo m d * 86400 + 86400) = dno lo m d * 86400 + 86400 := wr_i64 (by omega)
          have ST := Lib.hid hst
          have HD := Lib.hid (fun v => days_any lo m v)
          have K2 : Hid (Blk (wr.setCell ⟨G, 2, none⟩ (.int .i64 (d + 1))) G 23 #[.int .i64 lo, .int .i64 m, .int .i64 (d + 1), .int .i64 0, .int .i64 0, .int .i64 0]) := by
            have := K.out.set_ 2 (.int .i64 (d + 1))
            rw [Hid]
            simpa using this
          have Z2 := Lib.hid (Z.out.far (p := ⟨G, 2, none⟩) hHG (.int .i64 (d + 1)))
          have Q2 := Lib.hid (Q.out.setCell (p := ⟨G, 2, none⟩) (Nat.le_of_lt HL.out) (.int .i64 (d + 1)))
          clear hst HST HAT hjan hb5
          go_wp2_with fail
          generalize wr.setCell ⟨G, 2, none⟩ (.int .i64 (d + 1)) = w10 at *
          clear k0 k1 k2 k3 k4 k5 kl kf
          obtain ⟨k0, k1, k2, k3, k4, k5⟩ := K2.out.cells6
          have kl := K2.out.lt
          have kf := K2.out.frozen
          by_cases hdy : dys lo m < d + 1
          · obtain ⟨g1, g2, g3⟩ := ST.out.1 hdy
            have DD := Lib.hid g2
            generalize dys lo m = D at *
            go_quiet ((go_at_call 27; first | with_reducible exact quiet_left_any (HD.out _) | with_reducible exact quiet_add_any (HD.out _)))
            have K3 : Hid (Blk (((w10.drewN nq).setCell ⟨G, 2, none⟩ (.int .i64 1)).setCell ⟨G, 1, none⟩ (.int .i64 (m + 1))) G 23 #[.int .i64 lo, .int .i64 (m + 1), .int .i64 1, .int .i64 0, .int .i64 0, .int .i64 0]) := by
              have := ((K2.out.drewN nq).set_ 2 (.int .i64 1)).set_ 1 (.int .i64 (m + 1))
              rw [Hid]
              simpa using this
            have Z3 := Lib.hid (((Z2.out.drewN nq).far (p := ⟨G, 2, none⟩) hHG (.int .i64 1)).far (p := ⟨G, 1, none⟩) hHG (.int .i64 (m + 1)))
            have Q3 := Lib.hid (((below_drewN Q2.out nq).setCell (p := ⟨G, 2, none⟩) (Nat.le_of_lt HL.out) (.int .i64 1)).setCell (p := ⟨G, 1, none⟩) (Nat.le_of_lt HL.out) (.int .i64 (m + 1)))
            go_wp2_with fail
            exact ⟨⟨m + 1, 1, by omega, g1, by omega, DD.out, by omega, congrArg (Value.int .i64) (by omega), by omega, K3.out, Z3.out, Q3.out⟩, by simp [intOf]; omega⟩
          · have g3 := ST.out.2
            have DD : Hid (d + 1 ≤ dys lo m) := by rw [Hid]; omega
            generalize hDD : dys lo m = D at *
            go_quiet ((go_at_call 27; first | with_reducible exact quiet_left_any (HD.out _) | with_reducible exact quiet_add_any (HD.out _)))
            go_wp2_with fail
            exact ⟨⟨m, d + 1, c1, c2, by omega, by rw [hDD]; exact DD.out, by omega, congrArg (Value.int .i64) (by omega), by omega, K2.out.drewN _, Z2.out.drewN _, below_drewN Q2.out _⟩, by simp [intOf]; omega⟩
        · have hat := HAT.out c6 (by omega)
          obtain ⟨r, hr⟩ : ∃ r, n - dno lo m d * 86400 = r := ⟨_, rfl⟩
          rw [hr] at hat t1 hge
          have AT := Lib.hid hat
          have u1 : r.tdiv 3600 = r / 3600 := Int.tdiv_eq_ediv_of_nonneg (by omega)
          have u2 : r.tmod 3600 = r % 3600 := Int.tmod_eq_emod_of_nonneg (by omega)
          have u3 : (r % 3600).tdiv 60 = r % 3600 / 60 := Int.tdiv_eq_ediv_of_nonneg (by omega)
          have u4 : r.tmod 60 = r % 60 := Int.tmod_eq_emod_of_nonneg (by omega)
          have v1 : IntKind.i64.wrap r = r := wr_i64 (by omega)
          have v2 : IntKind.i64.wrap (r / 3600) = r / 3600 := wr_i64 (by omega)
          have v3 : IntKind.i64.wrap (r % 3600) = r % 3600 := wr_i64 (by omega)
          have v4 : IntKind.i64.wrap (r % 3600 / 60) = r % 3600 / 60 := wr_i64 (by omega)
          have v5 : IntKind.i64.wrap (r % 60) = r % 60 := wr_i64 (by omega)
          have hge2 : ¬ 86400 ≤ r := hge
          clear hat HST HAT hjan hb5 hdd hub hge
          have Z3 := Lib.hid (((Z.out.far (p := ⟨G, 3, none⟩) hHG (.int .i64 (r / 3600))).far (p := ⟨G, 4, none⟩) hHG (.int .i64 (r % 3600 / 60))).far (p := ⟨G, 5, none⟩) hHG (.int .i64 (r % 60)))
          have Q3 := Lib.hid (((Q.out.setCell (p := ⟨G, 3, none⟩) (Nat.le_of_lt HL.out) (.int .i64 (r / 3600))).setCell (p := ⟨G, 4, none⟩) (Nat.le_of_lt HL.out) (.int .i64 (r % 3600 / 60))).setCell (p := ⟨G, 5, none⟩) (Nat.le_of_lt HL.out) (.int .i64 (r % 60)))
          have ZF := Lib.hid (Z3.out.six (.int .i64 lo) (.int .i64 m) (.int .i64 d) (.int .i64 (r / 3600)) (.int .i64 (r % 3600 / 60)) (.int .i64 (r % 60)))
          have QF := Lib.hid (below_six Q3.out (Nat.le_refl H) (.int .i64 lo) (.int .i64 m) (.int .i64 d) (.int .i64 (r / 3600)) (.int .i64 (r % 3600 / 60)) (.int .i64 (r % 60)))
          obtain ⟨z0, z1, z2, z3, z4, z5⟩ := Z.out.cells6
          have zl := Z.out.lt
          have zf := Z.out.frozen
          go_wp2_with fail
          obtain ⟨y0, y1, y2, y3, y4, y5⟩ := ZF.out.cells6
          have q := QF.out
          generalize (((((((((wr.setCell ⟨G, 3, none⟩ (.int .i64 (r / 3600))).setCell ⟨G, 4, none⟩ (.int .i64 (r % 3600 / 60))).setCell ⟨G, 5, none⟩ (.int .i64 (r % 60))).setCell ⟨H, 0, none⟩ (.int .i64 lo)).setCell ⟨H, 1, none⟩ (.int .i64 m)).setCell ⟨H, 2, none⟩ (.int .i64 d)).setCell ⟨H, 3, none⟩ (.int .i64 (r / 3600))).setCell ⟨H, 4, none⟩ (.int .i64 (r % 3600 / 60))).setCell ⟨H, 5, none⟩ (.int .i64 (r % 60))) = w9 at *
          exact bodyPost_ret (v := .tuple #[.agg #[.int .i64 lo, .int .i64 m, .int .i64 d, .int .i64 (r / 3600), .int .i64 (r % 3600 / 60), .int .i64 (r % 60)], .int .i64 0]) (by simp [results, Tryd.results25, go_sem, y0, y1, y2, y3, y4, y5]) rfl ⟨⟨⟨lo, m, d, r / 3600, r % 3600 / 60, r % 60⟩, 0, rfl, by omega, by first | exact ⟨AT.out.1, AT.out.2, rfl⟩ | exact fun _ => ⟨AT.out.1, AT.out.2, rfl⟩⟩, by first | exact q | (rw [hH]; exact q)⟩
end Go.Proofs.YtneeddbonhiflaaDoor
