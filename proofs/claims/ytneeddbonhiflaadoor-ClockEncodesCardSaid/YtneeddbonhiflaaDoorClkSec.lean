/-
  Contracts of the program's daysBefore and Seconds.
-/
import Derived.Test.YtneeddbonhiflaaDoorClkValid
import Derived.Test.YtneeddbonhiflaaDoorClSec
import Derived.Test.YtneeddbonhiflaaDoorClNum
import Derived.LoopTactic
import Derived.BigQuiet
namespace Go.Proofs.YtneeddbonhiflaaDoor
open Go.RowKit

/-- the days from the beginning of the year 0 to that of another year -/
def dB (y : Int) : Int := y * 365 + (y + 3) / 4 - (y + 99) / 100 + (y + 399) / 400
theorem dB_dno (y : Int) : dno y 1 1 + 719528 = dB y := by
  unfold dB dno
  rw [if_pos (by omega)]
  omega
theorem dno_bd {y m d : Int} (hy : 0 ≤ y ∧ y ≤ 9999) (hm : 1 ≤ m ∧ m ≤ 12) (hd : 1 ≤ d ∧ d ≤ 31) : -719528 ≤ dno y m d ∧ dno y m d ≤ 2933000 := by
  unfold dno
  split <;> omega

set_option maxRecDepth 100000 in
set_option maxHeartbeats 2000000 in
theorem dbefore_any (y : Int) (h0 : 0 ≤ y) (h1 : y ≤ 10000) (w : World) :
    Calls Tryd.prog 35 #[.int .i64 y] w fun e w' => e = .returned (.int .i64 (dB y)) ∧ w' = w := by
  have v1 : IntKind.i64.wrap (y * 365) = y * 365 := wr_num (by omega)
  have v2 : IntKind.i64.wrap (y + 3) = y + 3 := wr_num (by omega)
  have u1 : (y + 3).tdiv 4 = (y + 3) / 4 := Int.tdiv_eq_ediv_of_nonneg (by omega)
  have v3 : IntKind.i64.wrap ((y + 3) / 4) = (y + 3) / 4 := wr_num (by omega)
  have v4 : IntKind.i64.wrap (y * 365 + (y + 3) / 4) = y * 365 + (y + 3) / 4 := wr_num (by omega)
  have v5 : IntKind.i64.wrap (y + 99) = y + 99 := wr_num (by omega)
  have u2 : (y + 99).tdiv 100 = (y + 99) / 100 := Int.tdiv_eq_ediv_of_nonneg (by omega)
  have v6 : IntKind.i64.wrap ((y + 99) / 100) = (y + 99) / 100 := wr_num (by omega)
  have v7 : IntKind.i64.wrap (y * 365 + (y + 3) / 4 - (y + 99) / 100) = y * 365 + (y + 3) / 4 - (y + 99) / 100 := wr_num (by omega)
  have v8 : IntKind.i64.wrap (y + 399) = y + 399 := wr_num (by omega)
  have u3 : (y + 399).tdiv 400 = (y + 399) / 400 := Int.tdiv_eq_ediv_of_nonneg (by omega)
  have v9 : IntKind.i64.wrap ((y + 399) / 400) = (y + 399) / 400 := wr_num (by omega)
  have v10 : IntKind.i64.wrap (y * 365 + (y + 3) / 4 - (y + 99) / 100 + (y + 399) / 400) = y * 365 + (y + 3) / 4 - (y + 99) / 100 + (y + 399) / 400 := wr_num (by omega)
  unfold dB
  go_enter Tryd.func35, Tryd.ntmps35
  go_wp2_with fail
  go_ret
  exact ⟨rfl, rfl⟩

set_option maxRecDepth 100000 in
set_option maxHeartbeats 8000000 in
theorem psec_no (y m d h i s : Int) (hok : okT ⟨y, m, d, h, i, s⟩ = false) (w : World) (hW : Wd w) :
    Calls Tryd.prog 20 #[.agg #[.int .i64 y, .int .i64 m, .int .i64 d, .int .i64 h, .int .i64 i, .int .i64 s]] w fun e w' => e = .returned (.tuple #[.int .i64 0, .int .i64 8]) ∧ Below w.heap.size w w' := by
  have HV := Lib.hid (fun v (hq : Below w.heap.size w v) => pvalid_any ⟨y, m, d, h, i, s⟩ v (hW.below hq))
  unfold tmV at HV
  rw [hok] at HV
  clear hok hW
  dsimp only at HV
  have Z1 := Lib.hid (Blk.new w 23 #[.int .i64 y, .int .i64 m, .int .i64 d, .int .i64 h, .int .i64 i, .int .i64 s])
  have Q1 := Lib.hid (bal (Below.refl w.heap.size w) (.cells #[.int .i64 y, .int .i64 m, .int .i64 d, .int .i64 h, .int .i64 i, .int .i64 s] 23))
  obtain ⟨A, hA⟩ : ∃ A, w.heap.size = A := ⟨_, rfl⟩
  rw [hA] at Z1
  go_enter Tryd.func20, Tryd.ntmps20
  go_wp2_with fail
  generalize w.alloc (.cells #[.int .i64 y, .int .i64 m, .int .i64 d, .int .i64 h, .int .i64 i, .int .i64 s] 23) = w1 at *
  obtain ⟨z0, z1, z2, z3, z4, z5⟩ := Z1.out.cells6
  go_wp2_with fail
  with_reducible refine (HV.out _ Q1.out).mono ?_
  rintro e w2 ⟨rfl, q⟩
  have Q2 := Lib.hid (bthen Q1.out q)
  clear q z0 z1 z2 z3 z4 z5
  go_wp2_with fail
  go_ret2
  exact ⟨rfl, Q2.out⟩

set_option maxRecDepth 100000 in
set_option maxHeartbeats 8000000 in
theorem psec_yes (y m d h i s : Int) (hok : okT ⟨y, m, d, h, i, s⟩ = true) (w : World) (hW : Wd w) :
    Calls Tryd.prog 20 #[.agg #[.int .i64 y, .int .i64 m, .int .i64 d, .int .i64 h, .int .i64 i, .int .i64 s]] w fun e w' => e = .returned (.tuple #[.int .i64 (secT ⟨y, m, d, h, i, s⟩), .int .i64 0]) ∧ Below w.heap.size w w' := by
  have HV := Lib.hid (fun v (hq : Below w.heap.size w v) => pvalid_any ⟨y, m, d, h, i, s⟩ v (hW.below hq))
  have HD := Lib.hid (fun mm v (hq : Below w.heap.size w v) => pdays_any y mm v (hW.below hq))
  have hb := okT_bounds hok
  dsimp only at hb
  unfold tmV at HV
  rw [hok] at HV
  clear hok hW
  dsimp only at HV
  obtain ⟨⟨b1, b2⟩, ⟨b3, b4⟩, ⟨b5, b6⟩, ⟨b7, b8⟩, ⟨b9, b10⟩, ⟨b11, b12⟩⟩ := hb
  have HB := Lib.hid (fun v => dbefore_any y b1 (by omega) v)
  have bdb := dno_bd ⟨b1, b2⟩ (m := 1) (d := 1) (by omega) (by omega)
  have bdd := dno_bd ⟨b1, b2⟩ (m := 1) (d := d) (by omega) ⟨b5, b6⟩
  have e1 := dB_dno y
  have e2 := dno_day y 1 d
  have v1 : IntKind.i64.wrap (dB y + d) = dB y + d := wr_num (by omega)
  have v2 : IntKind.i64.wrap (dB y + d - 1) = dno y 1 d + 719528 := by rw [wr_num (by omega)]; omega
  clear e1 e2
  have Z1 := Lib.hid (Blk.new w 23 #[.int .i64 y, .int .i64 m, .int .i64 d, .int .i64 h, .int .i64 i, .int .i64 s])
  have Q1 := Lib.hid (bal (Below.refl w.heap.size w) (.cells #[.int .i64 y, .int .i64 m, .int .i64 d, .int .i64 h, .int .i64 i, .int .i64 s] 23))
  obtain ⟨A, hA⟩ : ∃ A, w.heap.size = A := ⟨_, rfl⟩
  rw [hA] at Z1
  have L1 : Hid (A < (w.alloc (.cells #[.int .i64 y, .int .i64 m, .int .i64 d, .int .i64 h, .int .i64 i, .int .i64 s] 23)).heap.size) := Z1.out.lt
  go_enter Tryd.func20, Tryd.ntmps20
  go_wp2_with fail
  generalize w.alloc (.cells #[.int .i64 y, .int .i64 m, .int .i64 d, .int .i64 h, .int .i64 i, .int .i64 s] 23) = w1 at *
  obtain ⟨z0, z1, z2, z3, z4, z5⟩ := Z1.out.cells6
  go_wp2_with fail
  with_reducible refine (HV.out _ Q1.out).mono ?_
  rintro e w2 ⟨rfl, q⟩
  have Q2 := Lib.hid (bthen Q1.out q)
  have Z2 := Lib.hid (Z1.out.below q L1.out)
  clear q z0 z1 z2 z3 z4 z5 Z1 Q1 L1 HV
  obtain ⟨z0, z1, z2, z3, z4, z5⟩ := Z2.out.cells6
  go_wp2_with fail
  go_quiet ((go_at_call 35; first | with_reducible exact quiet_left_any (HB.out _) | with_reducible exact quiet_add_any (HB.out _)))
  have Z3 := Lib.hid (Z2.out.drewN nq)
  have Q3 := Lib.hid (below_drewN Q2.out nq)
  generalize w2.drewN nq = w3 at *
  clear z0 z1 z2 z3 z4 z5 Z2 Q2 v1 v2 bdb bdd HB
  go_wp2_with fail
  go_loopw [4, 5] (fun x k wr => ∃ n : Int, 1 ≤ n ∧ n ≤ m ∧ k = .int .i64 n ∧ x = .int .i64 (dno y n d + 719528) ∧ Blk wr A 23 #[.int .i64 y, .int .i64 m, .int .i64 d, .int .i64 h, .int .i64 i, .int .i64 s] ∧ Below w.heap.size w wr) (fun _ k _ => (m - intOf k).toNat)
  case atStart => exact ⟨1, by omega, b3, rfl, rfl, Z3.out, Q3.out⟩
  case round =>
    obtain ⟨n, n1, n2, rfl, rfl, hz, hq⟩ := hrel
    have Z4 := Lib.hid hz
    have Q4 := Lib.hid hq
    clear hz hq Z3 Q3
    obtain ⟨z0, z1, z2, z3, z4, z5⟩ := Z4.out.cells6
    have zl := Z4.out.lt
    have bn := dno_bd ⟨b1, b2⟩ (m := n) (d := d) ⟨n1, by omega⟩ ⟨b5, b6⟩
    by_cases hlt : n < m
    · have en := dno_month ⟨b1, b2⟩ (m := n) ⟨n1, by omega⟩
      have en1 := dno_day y n d
      have en2 := dno_day y (n + 1) d
      have bm := dno_bd ⟨b1, b2⟩ (m := n + 1) (d := d) (by omega) ⟨b5, b6⟩
      have t1 : IntKind.i64.wrap (dno y n d + 719528 + dys y n) = dno y (n + 1) d + 719528 := by rw [wr_num (by omega)]; omega
      have t2 : IntKind.i64.wrap (n + 1) = n + 1 := wr_num (by omega)
      clear en en1 en2
      go_wp2_with fail
      with_reducible refine (HD.out _ _ Q4.out).mono ?_
      rintro e w5 ⟨rfl, rfl⟩
      go_wp2_with fail
      exact ⟨⟨n + 1, by omega, by omega, rfl, rfl, Z4.out, Q4.out⟩, by simp [intOf]; omega⟩
    · obtain rfl : n = m := by omega
      have t1 : IntKind.i64.wrap (h * 3600) = h * 3600 := wr_num (by omega)
      have t2 : IntKind.i64.wrap (i * 60) = i * 60 := wr_num (by omega)
      have t3 : IntKind.i64.wrap (h * 3600 + i * 60) = h * 3600 + i * 60 := wr_num (by omega)
      have t4 : IntKind.i64.wrap (h * 3600 + i * 60 + s) = h * 3600 + i * 60 + s := wr_num (by omega)
      have t5 : IntKind.i64.wrap ((dno y n d + 719528) * 86400) = (dno y n d + 719528) * 86400 := wr_num (by omega)
      have t6 : IntKind.i64.wrap (-62167219200 + (dno y n d + 719528) * 86400) = -62167219200 + (dno y n d + 719528) * 86400 := wr_num (by omega)
      have t7 : IntKind.i64.wrap (-62167219200 + (dno y n d + 719528) * 86400 + (h * 3600 + i * 60 + s)) = secT ⟨y, n, d, h, i, s⟩ := by
        unfold secT
        dsimp only
        rw [wr_num (by omega)]
        omega
      clear hlt
      go_wp2_with fail
      go_ret2
      exact ⟨rfl, Q4.out⟩

theorem pseconds_any (t : Tm) (w : World) (hW : Wd w) :
    Calls Tryd.prog 20 #[tmV t] w fun e w' => e = .returned (.tuple #[.int .i64 (secE t).1, .int .i64 (secE t).2]) ∧ Below w.heap.size w w' := by
  obtain ⟨y, m, d, h, i, s⟩ := t
  unfold secE
  rcases hok : okT ⟨y, m, d, h, i, s⟩ with _ | _
  · exact psec_no y m d h i s hok w hW
  · rw [if_pos rfl]
    exact psec_yes y m d h i s hok w hW
end Go.Proofs.YtneeddbonhiflaaDoor
