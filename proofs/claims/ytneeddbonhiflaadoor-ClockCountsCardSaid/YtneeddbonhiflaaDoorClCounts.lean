/-
  Every second within the limits is that of a valid point in time; ClockCounts, whole, over its callees' contracts.
-/
import Derived.Test.YtneeddbonhiflaaDoorClCntLaw
namespace Go.Proofs.YtneeddbonhiflaaDoor
open Go.RowKit

theorem day_end {y m d : Int} (hy : 0 ≤ y ∧ y ≤ 9999) (hm : 1 ≤ m ∧ m ≤ 12) (hd : 1 ≤ d ∧ d ≤ dys y m) : dno y m d + 1 ≤ dno (y + 1) 1 1 := by
  have e := dno_day y m d
  have e2 := dno_year y
  have e3 : dys y 12 = 31 := dys_31 (by omega) (by omega)
  by_cases h : m = 12
  · subst h
    omega
  · have := month_lt (y := y) (m := m) (y2 := y) (m2 := 12) (by omega) (by omega) (.inr ⟨rfl, by omega⟩)
    omega
theorem day_all (k : Nat) : (k : Int) < 3652425 → ∃ y m d, (0 ≤ y ∧ y ≤ 9999) ∧ (1 ≤ m ∧ m ≤ 12) ∧ (1 ≤ d ∧ d ≤ dys y m) ∧ dno y m d = -719528 + (k : Int) := by
  induction k with
  | zero => exact fun _ => ⟨0, 1, 1, by decide, by decide, by decide, by decide⟩
  | succ k ih =>
    intro h
    obtain ⟨y, m, d, hy, hm, hd, e⟩ := ih (by omega)
    have he := day_end hy hm hd
    by_cases hl : dno y m d + 1 < dno (y + 1) 1 1
    · obtain ⟨g1, g2⟩ := day_step hy hm hd hl
      by_cases hn : dys y m < d + 1
      · obtain ⟨g3, g4, g5⟩ := g1 hn
        exact ⟨y, m + 1, 1, hy, ⟨by omega, g3⟩, ⟨by omega, g4⟩, by omega⟩
      · exact ⟨y, m, d + 1, hy, hm, ⟨by omega, by omega⟩, by omega⟩
    · have hj := dno_jan (y + 1)
      have hy9 : y ≠ 9999 := by
        rintro rfl
        omega
      have hd1 : dys (y + 1) 1 = 31 := dys_31 (by omega) (by omega)
      exact ⟨y + 1, 1, 1, by omega, by omega, by omega, by omega⟩
theorem sec_ex {n : Int} (h : -62167219200 ≤ n ∧ n ≤ 253402300799) : ∃ t, okT t = true ∧ secT t = n := by
  obtain ⟨k, hk⟩ : ∃ k : Nat, (k : Int) = n / 86400 + 719528 := ⟨(n / 86400 + 719528).toNat, by omega⟩
  obtain ⟨y, m, d, hy, hm, hd, e⟩ := day_all k (by omega)
  have := sec_at (n := n) hd (by omega) (by omega)
  exact ⟨_, this.1, this.2⟩

theorem counts_walk (n : Int) (hn : -9223372036854775808 ≤ n ∧ n ≤ 9223372036854775807) (w : World)
    (HA : ∀ v : World, Below w.heap.size w v → Calls Tryd.prog 8 #[] v fun e w' => e = .returned (.bool true) ∧ Below v.heap.size v w')
    (HF : ∀ (n : Int) (v : World), -9223372036854775808 ≤ n ∧ n ≤ 9223372036854775807 → Below w.heap.size w v → Calls Tryd.prog 24 #[.int .i64 n] v fun e w' => (∃ T k, e = .returned (.tuple #[tmV T, .int .i64 k]) ∧ ((n < -62167219200 ∨ 253402300799 < n) → T = tm0 ∧ k = 9) ∧ (-62167219200 ≤ n ∧ n ≤ 253402300799 → okT T = true ∧ secT T = n ∧ k = 0)) ∧ Below v.heap.size v w')
    (HS : ∀ (t : Tm) (v : World), Below w.heap.size w v → Calls Tryd.prog 20 #[tmV t] v fun e w' => e = .returned (.tuple #[.int .i64 (secE t).1, .int .i64 (secE t).2]) ∧ Below v.heap.size v w')
    (HC : ∀ (s t : Tm) (v : World), Below w.heap.size w v → Calls Tryd.prog 22 #[tmV s, tmV t] v fun e w' => e = .returned (.int .i64 (cmpT s t)) ∧ Below v.heap.size v w') :
    Calls Tryd.prog 6 #[.int .i64 n] w fun e w' => e = .returned (.bool true) ∧ Below w.heap.size w w' := by
  by_cases hr : -62167219200 ≤ n ∧ n ≤ 253402300799
  · obtain ⟨t, ht, hs⟩ := sec_ex hr
    have hw : IntKind.i64.wrap (n + 1) = n + 1 := wr_i64 (by omega)
    have h1 := fun v q => from_in hr ht hs (HF n v hn q)
    have h2 := fun v => from_in hr ht hs (from_any n hn v)
    have h3 := HS t
    unfold secE at h3
    rw [if_pos ht, hs] at h3
    by_cases hl : n = 253402300799
    · have h4 := fun v q => from_out (n := n + 1) (.inr (by omega)) (HF (n + 1) v (by omega) q)
      obtain ⟨y1, m1, d1, i1, j1, s1⟩ := t
      exact counts_last n y1 m1 d1 i1 j1 s1 hw w HA h1 h2 h3 h4
    · obtain ⟨t2, ht2, hs2⟩ := sec_ex (n := n + 1) (by omega)
      have h4 := fun v q => from_in (n := n + 1) (by omega) ht2 hs2 (HF (n + 1) v (by omega) q)
      have hc : cmpT t t2 = -1 := by
        have := (sec_order ht ht2).1.2 (by omega)
        rcases cmpT_range t t2 with h | h | h <;> omega
      have h5 := HC t t2
      rw [hc] at h5
      obtain ⟨y1, m1, d1, i1, j1, s1⟩ := t
      obtain ⟨y2, m2, d2, i2, j2, s2⟩ := t2
      exact counts_in n y1 m1 d1 i1 j1 s1 y2 m2 d2 i2 j2 s2 hw w HA h1 h2 h3 h4 h5
  · exact counts_out n w HA (fun v q => from_out (by omega) (HF n v hn q)) (fun v => from_out (by omega) (from_any n hn v))
end Go.Proofs.YtneeddbonhiflaaDoor
