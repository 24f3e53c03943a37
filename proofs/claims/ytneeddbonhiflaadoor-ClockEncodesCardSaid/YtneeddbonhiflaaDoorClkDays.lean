/-
  Contracts of the program's isLeap, Days, and what the table of lengths holds.
-/
import Derived.Test.YtneeddbonhiflaaDoorClDays
namespace Go.Proofs.YtneeddbonhiflaaDoor
open Go.RowKit

/-- the days of each month of years that are no leap years -/
def lens : List Int := [31, 28, 31, 30, 31, 30, 31, 31, 30, 31, 30, 31]
/-- what the walks read of the world: the table of lengths -/
def Wd (w : World) : Prop := ∀ i : Nat, i < 12 → w.cell? ⟨0, i, none⟩ = some (.int .i64 (lens.getD i 0))
theorem Wd.below {w w' : World} (h : Wd w) (hb : Below w.heap.size w w') : Wd w' := fun i hi => (hb.cell (p := ⟨0, i, none⟩) (World.block_lt_of_cell? _ _ (h i hi))).trans (h i hi)

set_option maxRecDepth 100000 in
set_option maxHeartbeats 2000000 in
theorem isleap_any (y : Int) (hy0 : 0 ≤ y) (w : World) :
    Calls Tryd.prog 39 #[.int .i64 y] w fun e w' => e = .returned (.bool (leap y)) ∧ w' = w := by
  have r4 : y.tmod 400 = y % 400 := Int.tmod_eq_emod_of_nonneg hy0
  have r1 : y.tmod 4 = y % 4 := Int.tmod_eq_emod_of_nonneg hy0
  have r2 : y.tmod 100 = y % 100 := Int.tmod_eq_emod_of_nonneg hy0
  by_cases c1 : y % 4 = 0
  · by_cases c2 : y % 100 = 0
    · by_cases c4 : y % 400 = 0
      · rw [show leap y = true from decide_eq_true (.inl c4)]
        have c3 : (y % 100 != 0) = false := by simp [c2]
        go_enter Tryd.func39, Tryd.ntmps39
        go_wp2_with fail
        go_ret
        exact ⟨rfl, rfl⟩
      · rw [show leap y = false from decide_eq_false (by omega)]
        have c3 : (y % 100 != 0) = false := by simp [c2]
        have c5 : (y % 400 == 0) = false := by simp [c4]
        go_enter Tryd.func39, Tryd.ntmps39
        go_wp2_with fail
        go_ret
        exact ⟨rfl, rfl⟩
    · rw [show leap y = true from decide_eq_true (.inr ⟨c1, c2⟩)]
      have c3 : (y % 100 != 0) = true := by simp [c2]
      go_enter Tryd.func39, Tryd.ntmps39
      go_wp2_with fail
      go_ret
      exact ⟨rfl, rfl⟩
  · rw [show leap y = false from decide_eq_false (by omega)]
    go_enter Tryd.func39, Tryd.ntmps39
    go_wp2_with fail
    go_ret
    exact ⟨rfl, rfl⟩

set_option maxRecDepth 100000 in
set_option maxHeartbeats 2000000 in
theorem pdays_any (y m : Int) (w : World) (hW : Wd w) :
    Calls Tryd.prog 26 #[.int .i64 y, .int .i64 m] w fun e w' => e = .returned (.int .i64 (dys y m)) ∧ w' = w := by
  by_cases h1 : y < 0
  · rw [dys_out (.inl h1)]
    go_enter Tryd.func26, Tryd.ntmps26
    go_wp2_with fail
    go_ret
    exact ⟨rfl, rfl⟩
  by_cases h2 : 9999 < y
  · rw [dys_out (.inr h2)]
    go_enter Tryd.func26, Tryd.ntmps26
    go_wp2_with fail
    go_ret
    exact ⟨rfl, rfl⟩
  have hy : ¬ (y < 0 ∨ 9999 < y) := by omega
  by_cases hm1 : m < 1
  · rw [dys_no (.inl hm1)]
    clear hy
    go_enter Tryd.func26, Tryd.ntmps26
    go_wp2_with fail
    go_ret
    exact ⟨rfl, rfl⟩
  by_cases hm2 : 12 < m
  · rw [dys_no (.inr hm2)]
    clear hy
    go_enter Tryd.func26, Tryd.ntmps26
    go_wp2_with fail
    go_ret
    exact ⟨rfl, rfl⟩
  have HL := Lib.hid (fun v => isleap_any y (by omega) v)
  have c0 : w.cell? ⟨0, 0, none⟩ = some (.int .i64 31) := hW 0 (by omega)
  have c1 : w.cell? ⟨0, 1, none⟩ = some (.int .i64 28) := hW 1 (by omega)
  have c2 : w.cell? ⟨0, 2, none⟩ = some (.int .i64 31) := hW 2 (by omega)
  have c3 : w.cell? ⟨0, 3, none⟩ = some (.int .i64 30) := hW 3 (by omega)
  have c4 : w.cell? ⟨0, 4, none⟩ = some (.int .i64 31) := hW 4 (by omega)
  have c5 : w.cell? ⟨0, 5, none⟩ = some (.int .i64 30) := hW 5 (by omega)
  have c6 : w.cell? ⟨0, 6, none⟩ = some (.int .i64 31) := hW 6 (by omega)
  have c7 : w.cell? ⟨0, 7, none⟩ = some (.int .i64 31) := hW 7 (by omega)
  have c8 : w.cell? ⟨0, 8, none⟩ = some (.int .i64 30) := hW 8 (by omega)
  have c9 : w.cell? ⟨0, 9, none⟩ = some (.int .i64 31) := hW 9 (by omega)
  have c10 : w.cell? ⟨0, 10, none⟩ = some (.int .i64 30) := hW 10 (by omega)
  have c11 : w.cell? ⟨0, 11, none⟩ = some (.int .i64 31) := hW 11 (by omega)
  rcases (by omega : m = 1 ∨ m = 2 ∨ m = 3 ∨ m = 4 ∨ m = 5 ∨ m = 6 ∨ m = 7 ∨ m = 8 ∨ m = 9 ∨ m = 10 ∨ m = 11 ∨ m = 12) with rfl | rfl | rfl | rfl | rfl | rfl | rfl | rfl | rfl | rfl | rfl | rfl
  · rw [dys_31 hy (by omega)]
    clear hm1 hm2 hy
    go_enter Tryd.func26, Tryd.ntmps26
    go_wp2_with fail
    go_ret
    exact ⟨rfl, rfl⟩
  · rw [dys_feb hy]
    clear hm1 hm2 hy
    rcases hl : leap y with _ | _
    · rw [hl] at HL
      rw [if_neg (by decide)]
      clear hl
      go_enter Tryd.func26, Tryd.ntmps26
      go_wp2_with fail
      with_reducible refine (HL.out _).mono ?_
      rintro e w1 ⟨rfl, rfl⟩
      go_wp2_with fail
      go_ret
      exact ⟨rfl, rfl⟩
    · rw [hl] at HL
      rw [if_pos rfl]
      clear hl
      go_enter Tryd.func26, Tryd.ntmps26
      go_wp2_with fail
      with_reducible refine (HL.out _).mono ?_
      rintro e w1 ⟨rfl, rfl⟩
      go_wp2_with fail
      go_ret
      exact ⟨rfl, rfl⟩
  · rw [dys_31 hy (by omega)]
    clear hm1 hm2 hy
    go_enter Tryd.func26, Tryd.ntmps26
    go_wp2_with fail
    go_ret
    exact ⟨rfl, rfl⟩
  · rw [dys_30 hy (by omega)]
    clear hm1 hm2 hy
    go_enter Tryd.func26, Tryd.ntmps26
    go_wp2_with fail
    go_ret
    exact ⟨rfl, rfl⟩
  · rw [dys_31 hy (by omega)]
    clear hm1 hm2 hy
    go_enter Tryd.func26, Tryd.ntmps26
    go_wp2_with fail
    go_ret
    exact ⟨rfl, rfl⟩
  · rw [dys_30 hy (by omega)]
    clear hm1 hm2 hy
    go_enter Tryd.func26, Tryd.ntmps26
    go_wp2_with fail
    go_ret
    exact ⟨rfl, rfl⟩
  · rw [dys_31 hy (by omega)]
    clear hm1 hm2 hy
    go_enter Tryd.func26, Tryd.ntmps26
    go_wp2_with fail
    go_ret
    exact ⟨rfl, rfl⟩
  · rw [dys_31 hy (by omega)]
    clear hm1 hm2 hy
    go_enter Tryd.func26, Tryd.ntmps26
    go_wp2_with fail
    go_ret
    exact ⟨rfl, rfl⟩
  · rw [dys_30 hy (by omega)]
    clear hm1 hm2 hy
    go_enter Tryd.func26, Tryd.ntmps26
    go_wp2_with fail
    go_ret
    exact ⟨rfl, rfl⟩
  · rw [dys_31 hy (by omega)]
    clear hm1 hm2 hy
    go_enter Tryd.func26, Tryd.ntmps26
    go_wp2_with fail
    go_ret
    exact ⟨rfl, rfl⟩
  · rw [dys_30 hy (by omega)]
    clear hm1 hm2 hy
    go_enter Tryd.func26, Tryd.ntmps26
    go_wp2_with fail
    go_ret
    exact ⟨rfl, rfl⟩
  · rw [dys_31 hy (by omega)]
    clear hm1 hm2 hy
    go_enter Tryd.func26, Tryd.ntmps26
    go_wp2_with fail
    go_ret
    exact ⟨rfl, rfl⟩
end Go.Proofs.YtneeddbonhiflaaDoor
