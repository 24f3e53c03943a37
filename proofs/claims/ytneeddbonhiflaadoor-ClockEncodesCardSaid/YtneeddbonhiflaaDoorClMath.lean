/-
  Plain mathematics of the clock layer: days of months, points in time, their order, their seconds.
-/
import Derived.Test.YtneeddbonhiflaaDoorWords
namespace Go.Proofs.YtneeddbonhiflaaDoor

structure Tm where
  y : Int
  m : Int
  d : Int
  h : Int
  i : Int
  s : Int
  deriving DecidableEq
def leap (y : Int) : Bool := decide (y % 400 = 0 ∨ (y % 4 = 0 ∧ y % 100 ≠ 0))
/-- the days of a month -/
def dys (y m : Int) : Int :=
  if y < 0 ∨ 9999 < y then 0
  else if m = 1 ∨ m = 3 ∨ m = 5 ∨ m = 7 ∨ m = 8 ∨ m = 10 ∨ m = 12 then 31
  else if m = 4 ∨ m = 6 ∨ m = 9 ∨ m = 11 then 30
  else if m = 2 then (if leap y = true then 29 else 28) else 0
def okT (t : Tm) : Bool := decide (1 ≤ t.d ∧ t.d ≤ dys t.y t.m) && (decide (0 ≤ t.h ∧ t.h ≤ 23) && (decide (0 ≤ t.i ∧ t.i ≤ 59) && decide (0 ≤ t.s ∧ t.s ≤ 59)))
theorem okT_iff {t : Tm} : okT t = true ↔ (1 ≤ t.d ∧ t.d ≤ dys t.y t.m) ∧ (0 ≤ t.h ∧ t.h ≤ 23) ∧ (0 ≤ t.i ∧ t.i ≤ 59) ∧ (0 ≤ t.s ∧ t.s ≤ 59) := by
  unfold okT
  simp only [Bool.and_eq_true, decide_eq_true_eq]
theorem dys_le (y m : Int) : 0 ≤ dys y m ∧ dys y m ≤ 31 := by
  unfold dys
  split
  · omega
  split
  · omega
  split
  · omega
  split
  · split <;> omega
  · omega
theorem dys_in {y m : Int} (h : 0 < dys y m) : (0 ≤ y ∧ y ≤ 9999) ∧ (1 ≤ m ∧ m ≤ 12) := by
  unfold dys at h
  split at h
  · omega
  refine ⟨by omega, ?_⟩
  split at h
  · omega
  split at h
  · omega
  split at h
  · omega
  · omega
/-- the number of the day, from the first of March of the year 0 on, less that of the first day of 1970 -/
def dno (y m d : Int) : Int :=
  if m < 3 then 365 * (y + 399) + (y + 399) / 4 - (y + 399) / 100 + (y + 399) / 400 + (153 * (m + 9) + 2) / 5 + d - 1 - 146097 - 719468
  else 365 * (y + 400) + (y + 400) / 4 - (y + 400) / 100 + (y + 400) / 400 + (153 * (m - 3) + 2) / 5 + d - 1 - 146097 - 719468
def secT (t : Tm) : Int := dno t.y t.m t.d * 86400 + (t.h * 3600 + t.i * 60 + t.s)
theorem dno_day (y m d : Int) : dno y m d = dno y m 1 + (d - 1) := by unfold dno; split <;> omega
theorem dno_month {y m : Int} (hy : 0 ≤ y ∧ y ≤ 9999) (hm : 1 ≤ m ∧ m ≤ 11) : dno y (m + 1) 1 = dno y m 1 + dys y m := by
  have e : m = 1 ∨ m = 2 ∨ m = 3 ∨ m = 4 ∨ m = 5 ∨ m = 6 ∨ m = 7 ∨ m = 8 ∨ m = 9 ∨ m = 10 ∨ m = 11 := by omega
  unfold dys
  rw [if_neg (by omega)]
  rcases e with rfl | rfl | rfl | rfl | rfl | rfl | rfl | rfl | rfl | rfl | rfl
  · rw [if_pos (by omega)]; unfold dno; rw [if_pos (by omega), if_pos (by omega)]; omega
  · rw [if_neg (by omega), if_neg (by omega), if_pos rfl]
    unfold dno leap
    rw [if_neg (by omega), if_pos (by omega)]
    by_cases hl : y % 400 = 0 ∨ (y % 4 = 0 ∧ y % 100 ≠ 0)
    · rw [decide_eq_true hl, if_pos rfl]; omega
    · rw [decide_eq_false hl, if_neg (by decide)]; omega
  · rw [if_pos (by omega)]; unfold dno; rw [if_neg (by omega), if_neg (by omega)]; omega
  · rw [if_neg (by omega), if_pos (by omega)]; unfold dno; rw [if_neg (by omega), if_neg (by omega)]; omega
  · rw [if_pos (by omega)]; unfold dno; rw [if_neg (by omega), if_neg (by omega)]; omega
  · rw [if_neg (by omega), if_pos (by omega)]; unfold dno; rw [if_neg (by omega), if_neg (by omega)]; omega
  · rw [if_pos (by omega)]; unfold dno; rw [if_neg (by omega), if_neg (by omega)]; omega
  · rw [if_pos (by omega)]; unfold dno; rw [if_neg (by omega), if_neg (by omega)]; omega
  · rw [if_neg (by omega), if_pos (by omega)]; unfold dno; rw [if_neg (by omega), if_neg (by omega)]; omega
  · rw [if_pos (by omega)]; unfold dno; rw [if_neg (by omega), if_neg (by omega)]; omega
  · rw [if_neg (by omega), if_pos (by omega)]; unfold dno; rw [if_neg (by omega), if_neg (by omega)]; omega
theorem dno_year (y : Int) : dno (y + 1) 1 1 = dno y 12 1 + 31 := by
  unfold dno
  rw [if_pos (by omega), if_neg (by omega)]
  omega
/-- the first day of a month, the months counted from the year 0 on -/
def mo (k : Nat) : Int := dno ((k / 12 : Nat) : Int) ((k % 12 : Nat) + 1 : Int) 1
def moD (k : Nat) : Int := dys ((k / 12 : Nat) : Int) ((k % 12 : Nat) + 1 : Int)
theorem mo_step {k : Nat} (hk : k < 120000) : mo (k + 1) = mo k + moD k := by
  unfold mo moD
  by_cases h : k % 12 = 11
  · have e1 : (k + 1) / 12 = k / 12 + 1 := by omega
    have e2 : (k + 1) % 12 = 0 := by omega
    rw [e1, e2, h]
    have := dno_year ((k / 12 : Nat) : Int)
    have hd : dys ((k / 12 : Nat) : Int) (((11 : Nat) : Int) + 1) = 31 := by
      unfold dys
      rw [if_neg (by omega), if_pos (by omega)]
    rw [hd]
    exact this
  · have e1 : (k + 1) / 12 = k / 12 := by omega
    have e2 : (k + 1) % 12 = k % 12 + 1 := by omega
    rw [e1, e2]
    exact dno_month (by omega) (by omega)
theorem mo_lt : ∀ (n k : Nat), k + n < 120000 → mo k + moD k ≤ mo (k + n + 1)
  | 0, k, h => Int.le_of_eq (mo_step (by omega)).symm
  | n + 1, k, h => by
    have h1 := mo_lt n k (by omega)
    have h2 := mo_step (k := k + n + 1) (by omega)
    have h3 := (dys_le (((k + n + 1) / 12 : Nat) : Int) (((k + n + 1) % 12 : Nat) + 1 : Int)).1
    have h4 : moD (k + n + 1) = dys (((k + n + 1) / 12 : Nat) : Int) (((k + n + 1) % 12 : Nat) + 1 : Int) := rfl
    show mo k + moD k ≤ mo (k + n + 1 + 1)
    omega
theorem mo_at {y m : Int} (hy : 0 ≤ y) (hm : 1 ≤ m ∧ m ≤ 12) : mo (12 * y.toNat + (m.toNat - 1)) = dno y m 1 ∧ moD (12 * y.toNat + (m.toNat - 1)) = dys y m := by
  have e1 : (12 * y.toNat + (m.toNat - 1)) / 12 = y.toNat := by omega
  have e2 : (12 * y.toNat + (m.toNat - 1)) % 12 = m.toNat - 1 := by omega
  have e3 : ((y.toNat : Nat) : Int) = y := by omega
  have e4 : ((m.toNat - 1 : Nat) : Int) + 1 = m := by omega
  unfold mo moD
  rw [e1, e2, e3, e4]
  exact ⟨rfl, rfl⟩
/-- a later month begins behind the end of an earlier one -/
theorem month_lt {y m y2 m2 : Int} (h : 0 < dys y m) (h2 : 0 < dys y2 m2) (hlt : y < y2 ∨ (y = y2 ∧ m < m2)) : dno y m 1 + dys y m ≤ dno y2 m2 1 := by
  obtain ⟨⟨a1, a2⟩, a3⟩ := dys_in h
  obtain ⟨⟨b1, b2⟩, b3⟩ := dys_in h2
  have e1 := mo_at a1 a3
  have e2 := mo_at b1 b3
  obtain ⟨n, hn⟩ : ∃ n, 12 * y2.toNat + (m2.toNat - 1) = 12 * y.toNat + (m.toNat - 1) + n + 1 := ⟨12 * y2.toNat + (m2.toNat - 1) - (12 * y.toNat + (m.toNat - 1)) - 1, by omega⟩
  have h3 := mo_lt n (12 * y.toNat + (m.toNat - 1)) (by omega)
  rw [← hn, e1.1, e1.2, e2.1] at h3
  exact h3

/-! ### the order -/
def cmpI2 (a b : Int) (r : Int) : Int := if a < b then -1 else if b < a then 1 else r
def cmpT (a b : Tm) : Int := cmpI2 a.y b.y (cmpI2 a.m b.m (cmpI2 a.d b.d (cmpI2 a.h b.h (cmpI2 a.i b.i (cmpI2 a.s b.s 0)))))
theorem cmpI2_lt {a b : Int} (r : Int) (h : a < b) : cmpI2 a b r = -1 := if_pos h
theorem cmpI2_gt {a b : Int} (r : Int) (h : b < a) : cmpI2 a b r = 1 := by unfold cmpI2; rw [if_neg (by omega), if_pos h]
theorem cmpI2_eq (a r : Int) : cmpI2 a a r = r := by unfold cmpI2; rw [if_neg (by omega), if_neg (by omega)]
theorem cmpI2_neg (a b r : Int) : cmpI2 b a (-r) = -(cmpI2 a b r) := by
  rcases (by omega : a < b ∨ b < a ∨ a = b) with h | h | rfl
  · rw [cmpI2_lt _ h, cmpI2_gt _ h]; rfl
  · rw [cmpI2_lt _ h, cmpI2_gt _ h]
  · rw [cmpI2_eq, cmpI2_eq]
theorem cmpT_neg (a b : Tm) : cmpT b a = -(cmpT a b) := by
  unfold cmpT
  rw [← cmpI2_neg, ← cmpI2_neg, ← cmpI2_neg, ← cmpI2_neg, ← cmpI2_neg, ← cmpI2_neg]
  rfl
theorem cmpI2_range (a b r : Int) (h : r = -1 ∨ r = 0 ∨ r = 1) : cmpI2 a b r = -1 ∨ cmpI2 a b r = 0 ∨ cmpI2 a b r = 1 := by
  unfold cmpI2
  split
  · exact .inl rfl
  split
  · exact .inr (.inr rfl)
  · exact h
theorem cmpT_range (a b : Tm) : cmpT a b = -1 ∨ cmpT a b = 0 ∨ cmpT a b = 1 :=
  cmpI2_range _ _ _ (cmpI2_range _ _ _ (cmpI2_range _ _ _ (cmpI2_range _ _ _ (cmpI2_range _ _ _ (cmpI2_range _ _ _ (.inr (.inl rfl)))))))
theorem cmpI2_m1 {a b r : Int} (h : cmpI2 a b r = -1) : a < b ∨ (a = b ∧ r = -1) := by
  unfold cmpI2 at h
  split at h
  · exact .inl (by assumption)
  split at h
  · cases h
  · exact .inr ⟨by omega, h⟩
theorem cmpI2_0 {a b r : Int} (h : cmpI2 a b r = 0) : a = b ∧ r = 0 := by
  unfold cmpI2 at h
  split at h
  · cases h
  split at h
  · cases h
  · exact ⟨by omega, h⟩
theorem cmpT_zero {a b : Tm} (h : cmpT a b = 0) : a = b := by
  unfold cmpT at h
  obtain ⟨h1, h⟩ := cmpI2_0 h
  obtain ⟨h2, h⟩ := cmpI2_0 h
  obtain ⟨h3, h⟩ := cmpI2_0 h
  obtain ⟨h4, h⟩ := cmpI2_0 h
  obtain ⟨h5, h⟩ := cmpI2_0 h
  obtain ⟨h6, _⟩ := cmpI2_0 h
  cases a
  cases b
  simp only at *
  simp [h1, h2, h3, h4, h5, h6]
theorem cmpT_self (a : Tm) : cmpT a a = 0 := by unfold cmpT; rw [cmpI2_eq, cmpI2_eq, cmpI2_eq, cmpI2_eq, cmpI2_eq, cmpI2_eq]
theorem sec_less {a b : Tm} (ha : okT a = true) (hb : okT b = true) (h : cmpT a b = -1) : secT a < secT b := by
  obtain ⟨⟨a1, a2⟩, a3, a4, a5⟩ := okT_iff.1 ha
  obtain ⟨⟨b1, b2⟩, b3, b4, b5⟩ := okT_iff.1 hb
  have ed := dno_day a.y a.m a.d
  have ee := dno_day b.y b.m b.d
  unfold secT
  unfold cmpT at h
  rcases cmpI2_m1 h with h1 | ⟨h1, h⟩
  · have := month_lt (y := a.y) (m := a.m) (y2 := b.y) (m2 := b.m) (by omega) (by omega) (.inl h1); omega
  rcases cmpI2_m1 h with h2 | ⟨h2, h⟩
  · have := month_lt (y := a.y) (m := a.m) (y2 := b.y) (m2 := b.m) (by omega) (by omega) (.inr ⟨h1, h2⟩); omega
  rw [h1, h2] at ed ⊢
  rcases cmpI2_m1 h with h3 | ⟨h3, h⟩
  · omega
  rw [h3] at ed ⊢
  rcases cmpI2_m1 h with h4 | ⟨h4, h⟩
  · omega
  rcases cmpI2_m1 h with h5 | ⟨h5, h⟩
  · omega
  rcases cmpI2_m1 h with h6 | ⟨h6, h⟩
  · omega
  · cases h
theorem sec_order {a b : Tm} (ha : okT a = true) (hb : okT b = true) : (cmpT a b < 0 ↔ secT a < secT b) ∧ (cmpT a b = 0 ↔ secT a = secT b) := by
  rcases cmpT_range a b with h | h | h
  · have := sec_less ha hb h
    rw [h]
    omega
  · have := cmpT_zero h
    subst this
    rw [h]
    omega
  · have h2 := cmpT_neg a b
    have := sec_less hb ha (by rw [h2, h])
    rw [h]
    omega
theorem sec_inj {a b : Tm} (ha : okT a = true) (hb : okT b = true) (h : secT a = secT b) : a = b := cmpT_zero ((sec_order ha hb).2.2 h)
end Go.Proofs.YtneeddbonhiflaaDoor
