/-
  Contract of the reference's Seconds.
-/
import Derived.Test.YtneeddbonhiflaaDoorClEnc
namespace Go.Proofs.YtneeddbonhiflaaDoor
open Go.RowKit

/-- the seconds, and the code -/
def secE (t : Tm) : Int × Int := if okT t = true then (secT t, 0) else (0, 8)

set_option maxRecDepth 100000 in
set_option maxHeartbeats 4000000 in
theorem sec_no (y m d h i s : Int) (hok : okT ⟨y, m, d, h, i, s⟩ = false) (w : World) :
    Calls Tryd.prog 21 #[.agg #[.int .i64 y, .int .i64 m, .int .i64 d, .int .i64 h, .int .i64 i, .int .i64 s]] w fun e w' => e = .returned (.tuple #[.int .i64 0, .int .i64 8]) ∧ Below w.heap.size w w' := by
  have HV := Lib.hid (fun w => cvalid_any ⟨y, m, d, h, i, s⟩ w)
  unfold tmV at HV
  rw [hok] at HV
  clear hok
  dsimp only at HV
  obtain ⟨A, hA⟩ : ∃ A, w.heap.size = A := ⟨_, rfl⟩
  have Z1 := Lib.hid (Blk.new w 23 #[.int .i64 y, .int .i64 m, .int .i64 d, .int .i64 h, .int .i64 i, .int .i64 s])
  rw [hA] at Z1
  have Q1 := Lib.hid (bal (Below.refl w.heap.size w) (.cells #[.int .i64 y, .int .i64 m, .int .i64 d, .int .i64 h, .int .i64 i, .int .i64 s] 23))
  go_enter Tryd.func21, Tryd.ntmps21
  go_wp2_with fail
  generalize w.alloc (.cells #[.int .i64 y, .int .i64 m, .int .i64 d, .int .i64 h, .int .i64 i, .int .i64 s] 23) = w1 at *
  obtain ⟨z0, z1, z2, z3, z4, z5⟩ := Z1.out.cells6
  go_wp2_with fail
  with_reducible refine (HV.out _).mono ?_
  rintro e w2 ⟨rfl, q⟩
  have Q2 := Lib.hid (bthen Q1.out q)
  clear q z0 z1 z2 z3 z4 z5
  go_wp2_with fail
  go_ret2
  exact ⟨rfl, Q2.out⟩

theorem wr_i64 {n : Int} (h : -9223372036854775808 ≤ n ∧ n ≤ 9223372036854775807) : IntKind.i64.wrap n = n := by rw [IntKind.wrap_i64]; omega
/-- the number of seconds out of the year and the month as the reference counts them -/
def secX (Y M d h i s : Int) : Int := (365 * Y + Y / 4 - Y / 100 + Y / 400 + (153 * M + 2) / 5 + d - 1 - 146097 - 719468) * 86400 + (h * 3600 + i * 60 + s)

set_option maxRecDepth 100000 in
set_option maxHeartbeats 8000000 in
theorem sec_yes (y m d h i s Y M : Int) (hok : okT ⟨y, m, d, h, i, s⟩ = true) (hYM : (m < 3 ∧ Y = y + 399 ∧ M = m + 9) ∨ (3 ≤ m ∧ Y = y + 400 ∧ M = m - 3)) (w : World) :
    Calls Tryd.prog 21 #[.agg #[.int .i64 y, .int .i64 m, .int .i64 d, .int .i64 h, .int .i64 i, .int .i64 s]] w fun e w' => e = .returned (.tuple #[.int .i64 (secX Y M d h i s), .int .i64 0]) ∧ Below w.heap.size w w' := by
  have HV := Lib.hid (fun w => cvalid_any ⟨y, m, d, h, i, s⟩ w)
  have hb := okT_bounds hok
  dsimp only at hb
  unfold tmV at HV
  rw [hok] at HV
  clear hok
  dsimp only at HV
  obtain ⟨A, hA⟩ : ∃ A, w.heap.size = A := ⟨_, rfl⟩
  have Z1 := Lib.hid (Blk.new w 23 #[.int .i64 y, .int .i64 m, .int .i64 d, .int .i64 h, .int .i64 i, .int .i64 s])
  rw [hA] at Z1
  have Q1 := Lib.hid (bal (Below.refl w.heap.size w) (.cells #[.int .i64 y, .int .i64 m, .int .i64 d, .int .i64 h, .int .i64 i, .int .i64 s] 23))
  obtain ⟨⟨b1, b2⟩, ⟨b3, b4⟩, ⟨b5, b6⟩, ⟨b7, b8⟩, ⟨b9, b10⟩, ⟨b11, b12⟩⟩ := hb
  have hY : 0 ≤ Y ∧ Y ≤ 10399 := by omega
  have hM : 0 ≤ M ∧ M ≤ 11 := by omega
  have u1 : Y.tdiv 4 = Y / 4 := Int.tdiv_eq_ediv_of_nonneg hY.1
  have u2 : Y.tdiv 100 = Y / 100 := Int.tdiv_eq_ediv_of_nonneg hY.1
  have u3 : Y.tdiv 400 = Y / 400 := Int.tdiv_eq_ediv_of_nonneg hY.1
  have u4 : (153 * M + 2).tdiv 5 = (153 * M + 2) / 5 := Int.tdiv_eq_ediv_of_nonneg (by omega)
  have v1 : IntKind.i64.wrap (365 * Y) = 365 * Y := wr_i64 (by omega)
  have v2 : IntKind.i64.wrap (Y / 4) = Y / 4 := wr_i64 (by omega)
  have v3 : IntKind.i64.wrap (Y / 100) = Y / 100 := wr_i64 (by omega)
  have v4 : IntKind.i64.wrap (Y / 400) = Y / 400 := wr_i64 (by omega)
  have v5 : IntKind.i64.wrap (153 * M) = 153 * M := wr_i64 (by omega)
  have v6 : IntKind.i64.wrap (153 * M + 2) = 153 * M + 2 := wr_i64 (by omega)
  have v7 : IntKind.i64.wrap ((153 * M + 2) / 5) = (153 * M + 2) / 5 := wr_i64 (by omega)
  have v8 : IntKind.i64.wrap (365 * Y + Y / 4) = 365 * Y + Y / 4 := wr_i64 (by omega)
  have v9 : IntKind.i64.wrap (365 * Y + Y / 4 - Y / 100) = 365 * Y + Y / 4 - Y / 100 := wr_i64 (by omega)
  have v10 : IntKind.i64.wrap (365 * Y + Y / 4 - Y / 100 + Y / 400) = 365 * Y + Y / 4 - Y / 100 + Y / 400 := wr_i64 (by omega)
  have v11 : IntKind.i64.wrap (365 * Y + Y / 4 - Y / 100 + Y / 400 + (153 * M + 2) / 5) = 365 * Y + Y / 4 - Y / 100 + Y / 400 + (153 * M + 2) / 5 := wr_i64 (by omega)
  have v12 : IntKind.i64.wrap (365 * Y + Y / 4 - Y / 100 + Y / 400 + (153 * M + 2) / 5 + d) = 365 * Y + Y / 4 - Y / 100 + Y / 400 + (153 * M + 2) / 5 + d := wr_i64 (by omega)
  obtain ⟨D, hD⟩ : ∃ D, 365 * Y + Y / 4 - Y / 100 + Y / 400 + (153 * M + 2) / 5 + d = D := ⟨_, rfl⟩
  rw [hD] at v12
  have v13 : IntKind.i64.wrap (D - 1) = D - 1 := wr_i64 (by omega)
  have v14 : IntKind.i64.wrap (D - 1 - 146097) = D - 1 - 146097 := wr_i64 (by omega)
  have v15 : IntKind.i64.wrap (D - 1 - 146097 - 719468) = D - 1 - 146097 - 719468 := wr_i64 (by omega)
  have v16 : IntKind.i64.wrap ((D - 1 - 146097 - 719468) * 86400) = (D - 1 - 146097 - 719468) * 86400 := wr_i64 (by omega)
  have v17 : IntKind.i64.wrap (h * 3600) = h * 3600 := wr_i64 (by omega)
  have v18 : IntKind.i64.wrap (i * 60) = i * 60 := wr_i64 (by omega)
  have v19 : IntKind.i64.wrap (h * 3600 + i * 60) = h * 3600 + i * 60 := wr_i64 (by omega)
  have v20 : IntKind.i64.wrap (h * 3600 + i * 60 + s) = h * 3600 + i * 60 + s := wr_i64 (by omega)
  have v21 : IntKind.i64.wrap ((D - 1 - 146097 - 719468) * 86400 + (h * 3600 + i * 60 + s)) = (D - 1 - 146097 - 719468) * 86400 + (h * 3600 + i * 60 + s) := wr_i64 (by omega)
  unfold secX
  rw [hD]
  rcases hYM with ⟨g1, g2, g3⟩ | ⟨g1, g2, g3⟩
  · have t1 : IntKind.i64.wrap (m - 3) = m - 3 := wr_i64 (by omega)
    have t2 : m - 3 < 0 := by omega
    have t3 : IntKind.i64.wrap (m - 3 + 12) = M := by rw [wr_i64 (by omega)]; omega
    have t4 : IntKind.i64.wrap (y - 1) = y - 1 := wr_i64 (by omega)
    have t5 : IntKind.i64.wrap (y - 1 + 400) = Y := by rw [wr_i64 (by omega)]; omega
    clear g1 g2 g3 b1 b2 b3 b4 b5 b6 b7 b8 b9 b10 b11 b12 hY hM
    go_enter Tryd.func21, Tryd.ntmps21
    go_wp2_with fail
    generalize w.alloc (.cells #[.int .i64 y, .int .i64 m, .int .i64 d, .int .i64 h, .int .i64 i, .int .i64 s] 23) = w1 at *
    obtain ⟨z0, z1, z2, z3, z4, z5⟩ := Z1.out.cells6
    go_wp2_with fail
    with_reducible refine (HV.out _).mono ?_
    rintro e w2 ⟨rfl, q⟩
    have Q2 := Lib.hid (bthen Q1.out q)
    have Z2 := Lib.hid (Z1.out.below q Z1.out.lt)
    clear q z0 z1 z2 z3 z4 z5
    obtain ⟨z0, z1, z2, z3, z4, z5⟩ := Z2.out.cells6
    go_wp2_with fail
    go_ret2
    exact ⟨rfl, Q2.out⟩
  · have t1 : IntKind.i64.wrap (m - 3) = M := by rw [wr_i64 (by omega)]; omega
    have t2 : ¬ M < 0 := by omega
    have t5 : IntKind.i64.wrap (y + 400) = Y := by rw [wr_i64 (by omega)]; omega
    clear g1 g2 g3 b1 b2 b3 b4 b5 b6 b7 b8 b9 b10 b11 b12 hY hM
    go_enter Tryd.func21, Tryd.ntmps21
    go_wp2_with fail
    generalize w.alloc (.cells #[.int .i64 y, .int .i64 m, .int .i64 d, .int .i64 h, .int .i64 i, .int .i64 s] 23) = w1 at *
    obtain ⟨z0, z1, z2, z3, z4, z5⟩ := Z1.out.cells6
    go_wp2_with fail
    with_reducible refine (HV.out _).mono ?_
    rintro e w2 ⟨rfl, q⟩
    have Q2 := Lib.hid (bthen Q1.out q)
    have Z2 := Lib.hid (Z1.out.below q Z1.out.lt)
    clear q z0 z1 z2 z3 z4 z5
    obtain ⟨z0, z1, z2, z3, z4, z5⟩ := Z2.out.cells6
    go_wp2_with fail
    go_ret2
    exact ⟨rfl, Q2.out⟩

theorem seconds_any (t : Tm) (w : World) :
    Calls Tryd.prog 21 #[tmV t] w fun e w' => e = .returned (.tuple #[.int .i64 (secE t).1, .int .i64 (secE t).2]) ∧ Below w.heap.size w w' := by
  obtain ⟨y, m, d, h, i, s⟩ := t
  unfold secE
  rcases hok : okT ⟨y, m, d, h, i, s⟩ with _ | _
  · exact sec_no y m d h i s hok w
  · rw [if_pos rfl]
    by_cases hm : m < 3
    · refine (sec_yes y m d h i s (y + 399) (m + 9) hok (.inl ⟨hm, rfl, rfl⟩) w).mono ?_
      rintro e w' ⟨he, q⟩
      refine ⟨?_, q⟩
      rw [he]
      unfold secT dno secX
      dsimp only
      rw [if_pos hm]
    · refine (sec_yes y m d h i s (y + 400) (m - 3) hok (.inr ⟨by omega, rfl, rfl⟩) w).mono ?_
      rintro e w' ⟨he, q⟩
      refine ⟨?_, q⟩
      rw [he]
      unfold secT dno secX
      dsimp only
      rw [if_neg hm]
end Go.Proofs.YtneeddbonhiflaaDoor
