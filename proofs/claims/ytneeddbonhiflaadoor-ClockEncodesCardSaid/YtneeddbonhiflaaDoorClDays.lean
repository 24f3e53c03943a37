/-
  Contracts of the reference's Days, in, Valid.
-/
import Derived.Test.YtneeddbonhiflaaDoorClMath
import Derived.Test.YtneeddbonhiflaaDoorBytesEq
import Derived.Test.YtneeddbonhiflaaDoorWk
namespace Go.Proofs.YtneeddbonhiflaaDoor
open Go.RowKit

/-- a point in time as a value -/
def tmV (t : Tm) : Value := .agg #[.int .i64 t.y, .int .i64 t.m, .int .i64 t.d, .int .i64 t.h, .int .i64 t.i, .int .i64 t.s]
theorem dys_out {y m : Int} (h : y < 0 ∨ 9999 < y) : dys y m = 0 := if_pos h
theorem dys_31 {y m : Int} (h : ¬ (y < 0 ∨ 9999 < y)) (hm : m = 1 ∨ m = 3 ∨ m = 5 ∨ m = 7 ∨ m = 8 ∨ m = 10 ∨ m = 12) : dys y m = 31 := by unfold dys; rw [if_neg h, if_pos hm]
theorem dys_30 {y m : Int} (h : ¬ (y < 0 ∨ 9999 < y)) (hm : m = 4 ∨ m = 6 ∨ m = 9 ∨ m = 11) : dys y m = 30 := by unfold dys; rw [if_neg h, if_neg (by omega), if_pos hm]
theorem dys_feb {y : Int} (h : ¬ (y < 0 ∨ 9999 < y)) : dys y 2 = if leap y = true then 29 else 28 := by unfold dys; rw [if_neg h, if_neg (by omega), if_neg (by omega), if_pos rfl]
theorem dys_no {y m : Int} (hm : m < 1 ∨ 12 < m) : dys y m = 0 := by
  unfold dys
  split
  · rfl
  rw [if_neg (by omega), if_neg (by omega), if_neg (by omega)]

set_option maxRecDepth 100000 in
set_option maxHeartbeats 2000000 in
theorem days_any (y m : Int) (w : World) :
    Calls Tryd.prog 27 #[.int .i64 y, .int .i64 m] w fun e w' => e = .returned (.int .i64 (dys y m)) ∧ w' = w := by
  by_cases h1 : y < 0
  · rw [dys_out (.inl h1)]
    go_enter Tryd.func27, Tryd.ntmps27
    go_wp2_with fail
    go_ret
    exact ⟨rfl, rfl⟩
  by_cases h2 : 9999 < y
  · rw [dys_out (.inr h2)]
    go_enter Tryd.func27, Tryd.ntmps27
    go_wp2_with fail
    go_ret
    exact ⟨rfl, rfl⟩
  have hy : ¬ (y < 0 ∨ 9999 < y) := by omega
  by_cases hm : m < 1 ∨ 12 < m
  · rw [dys_no hm]
    have n1 : ¬ m = 1 := by omega
    have n2 : ¬ m = 2 := by omega
    have n3 : ¬ m = 3 := by omega
    have n4 : ¬ m = 4 := by omega
    have n5 : ¬ m = 5 := by omega
    have n6 : ¬ m = 6 := by omega
    have n7 : ¬ m = 7 := by omega
    have n8 : ¬ m = 8 := by omega
    have n9 : ¬ m = 9 := by omega
    have n10 : ¬ m = 10 := by omega
    have n11 : ¬ m = 11 := by omega
    have n12 : ¬ m = 12 := by omega
    clear hm hy
    go_enter Tryd.func27, Tryd.ntmps27
    go_wp2_with fail
    go_ret
    exact ⟨rfl, rfl⟩
  rcases (by omega : m = 1 ∨ m = 2 ∨ m = 3 ∨ m = 4 ∨ m = 5 ∨ m = 6 ∨ m = 7 ∨ m = 8 ∨ m = 9 ∨ m = 10 ∨ m = 11 ∨ m = 12) with rfl | rfl | rfl | rfl | rfl | rfl | rfl | rfl | rfl | rfl | rfl | rfl
  · rw [dys_31 hy (by omega)]
    clear hm hy
    go_enter Tryd.func27, Tryd.ntmps27
    go_wp2_with fail
    go_ret
    exact ⟨rfl, rfl⟩
  · rw [dys_feb hy]
    have hy0 : 0 ≤ y := by omega
    have r4 : y.tmod 400 = y % 400 := Int.tmod_eq_emod_of_nonneg hy0
    have r1 : y.tmod 4 = y % 4 := Int.tmod_eq_emod_of_nonneg hy0
    have r2 : y.tmod 100 = y % 100 := Int.tmod_eq_emod_of_nonneg hy0
    by_cases c4 : y % 400 = 0
    · have e : leap y = true := decide_eq_true (.inl c4)
      rw [if_pos e]
      clear hm hy e
      go_enter Tryd.func27, Tryd.ntmps27
      go_wp2_with fail
      go_ret
      exact ⟨rfl, rfl⟩
    · by_cases c1 : y % 4 = 0
      · by_cases c2 : y % 100 = 0
        · have e : leap y = false := decide_eq_false (by omega)
          rw [if_neg (by rw [e]; decide)]
          clear hm hy e
          go_enter Tryd.func27, Tryd.ntmps27
          go_wp2_with fail
          go_ret
          exact ⟨rfl, rfl⟩
        · have e : leap y = true := decide_eq_true (.inr ⟨c1, c2⟩)
          rw [if_pos e]
          have c3 : (y % 100 != 0) = true := by simp [c2]
          clear hm hy e
          go_enter Tryd.func27, Tryd.ntmps27
          go_wp2_with fail
          go_ret
          exact ⟨rfl, rfl⟩
      · have e : leap y = false := decide_eq_false (by omega)
        rw [if_neg (by rw [e]; decide)]
        clear hm hy e
        go_enter Tryd.func27, Tryd.ntmps27
        go_wp2_with fail
        go_ret
        exact ⟨rfl, rfl⟩
  · rw [dys_31 hy (by omega)]
    clear hm hy
    go_enter Tryd.func27, Tryd.ntmps27
    go_wp2_with fail
    go_ret
    exact ⟨rfl, rfl⟩
  · rw [dys_30 hy (by omega)]
    clear hm hy
    go_enter Tryd.func27, Tryd.ntmps27
    go_wp2_with fail
    go_ret
    exact ⟨rfl, rfl⟩
  · rw [dys_31 hy (by omega)]
    clear hm hy
    go_enter Tryd.func27, Tryd.ntmps27
    go_wp2_with fail
    go_ret
    exact ⟨rfl, rfl⟩
  · rw [dys_30 hy (by omega)]
    clear hm hy
    go_enter Tryd.func27, Tryd.ntmps27
    go_wp2_with fail
    go_ret
    exact ⟨rfl, rfl⟩
  · rw [dys_31 hy (by omega)]
    clear hm hy
    go_enter Tryd.func27, Tryd.ntmps27
    go_wp2_with fail
    go_ret
    exact ⟨rfl, rfl⟩
  · rw [dys_31 hy (by omega)]
    clear hm hy
    go_enter Tryd.func27, Tryd.ntmps27
    go_wp2_with fail
    go_ret
    exact ⟨rfl, rfl⟩
  · rw [dys_30 hy (by omega)]
    clear hm hy
    go_enter Tryd.func27, Tryd.ntmps27
    go_wp2_with fail
    go_ret
    exact ⟨rfl, rfl⟩
  · rw [dys_31 hy (by omega)]
    clear hm hy
    go_enter Tryd.func27, Tryd.ntmps27
    go_wp2_with fail
    go_ret
    exact ⟨rfl, rfl⟩
  · rw [dys_30 hy (by omega)]
    clear hm hy
    go_enter Tryd.func27, Tryd.ntmps27
    go_wp2_with fail
    go_ret
    exact ⟨rfl, rfl⟩
  · rw [dys_31 hy (by omega)]
    clear hm hy
    go_enter Tryd.func27, Tryd.ntmps27
    go_wp2_with fail
    go_ret
    exact ⟨rfl, rfl⟩

set_option maxRecDepth 100000 in
theorem in_any (n a b : Int) (w : World) :
    Calls Tryd.prog 30 #[.int .i64 n, .int .i64 a, .int .i64 b] w fun e w' => e = .returned (.bool (decide (a ≤ n ∧ n ≤ b))) ∧ w' = w := by
  by_cases h1 : a ≤ n
  · by_cases h2 : n ≤ b
    · rw [decide_eq_true ⟨h1, h2⟩]
      go_enter Tryd.func30, Tryd.ntmps30
      go_wp2_with fail
      go_ret
      exact ⟨rfl, rfl⟩
    · rw [decide_eq_false (fun h => h2 h.2)]
      go_enter Tryd.func30, Tryd.ntmps30
      go_wp2_with fail
      go_ret
      exact ⟨rfl, rfl⟩
  · rw [decide_eq_false (fun h => h1 h.1)]
    go_enter Tryd.func30, Tryd.ntmps30
    go_wp2_with fail
    go_ret
    exact ⟨rfl, rfl⟩

/-- a call that leaves the world as it was, in a region that only reads -/
theorem quiet_left_any {P : Program} {f : FuncId} {args : Array Value} {w : World} {n : Nat} {v : Value}
    (h : Calls P f args (w.drewN n) fun e w' => e = .returned v ∧ w' = w.drewN n) : Calls P f args (w.drewN n) fun e w'' => e = .returned v ∧ ∃ m, w'' = w.drewN m :=
  h.mono fun _ _ ⟨he, hm⟩ => ⟨he, n, hm⟩
theorem quiet_add_any {P : Program} {f : FuncId} {args : Array Value} {w : World} {a n : Nat} {v : Value}
    (h : Calls P f args (w.drewN (a + n)) fun e w' => e = .returned v ∧ w' = w.drewN (a + n)) : Calls P f args (w.drewN (a + n)) fun e w'' => e = .returned v ∧ ∃ m, w'' = w.drewN (a + m) :=
  h.mono fun _ _ ⟨he, hm⟩ => ⟨he, n, hm⟩
set_option maxRecDepth 100000 in
set_option maxHeartbeats 2000000 in
theorem cvalid_any (t : Tm) (w : World) :
    Calls Tryd.prog 15 #[tmV t] w fun e w' => e = .returned (.bool (okT t)) ∧ Below w.heap.size w w' := by
  obtain ⟨y, m, d, h, i, s⟩ := t
  unfold tmV okT
  have HD := Lib.hid (fun w => days_any y m w)
  have H1 := Lib.hid (fun w => in_any d 1 (dys y m) w)
  have H2 := Lib.hid (fun w => in_any h 0 23 w)
  have H3 := Lib.hid (fun w => in_any i 0 59 w)
  have H4 := Lib.hid (fun w => in_any s 0 59 w)
  dsimp only at H1 H2 H3 H4 ⊢
  obtain ⟨A, hA⟩ : ∃ A, w.heap.size = A := ⟨_, rfl⟩
  have Z1 := Lib.hid (Blk.new w 23 #[.int .i64 y, .int .i64 m, .int .i64 d, .int .i64 h, .int .i64 i, .int .i64 s])
  rw [hA] at Z1
  have Q1 := Lib.hid (bal (Below.refl w.heap.size w) (.cells #[.int .i64 y, .int .i64 m, .int .i64 d, .int .i64 h, .int .i64 i, .int .i64 s] 23))
  generalize decide (1 ≤ d ∧ d ≤ dys y m) = b1 at *
  generalize dys y m = D at *
  generalize decide (0 ≤ h ∧ h ≤ 23) = b2 at *
  generalize decide (0 ≤ i ∧ i ≤ 59) = b3 at *
  generalize decide (0 ≤ s ∧ s ≤ 59) = b4 at *
  go_enter Tryd.func15, Tryd.ntmps15
  go_wp2_with fail
  generalize w.alloc (.cells #[.int .i64 y, .int .i64 m, .int .i64 d, .int .i64 h, .int .i64 i, .int .i64 s] 23) = w1 at *
  have c0 := Z1.out.cell 0
  have c1 := Z1.out.cell 1
  have c2 := Z1.out.cell 2
  have c3 := Z1.out.cell 3
  have c4 := Z1.out.cell 4
  have c5 := Z1.out.cell 5
  simp only [List.getElem?_toArray, List.getElem?_cons_zero, List.getElem?_cons_succ] at c0 c1 c2 c3 c4 c5
  rcases b1 with _ | _
  all_goals (try (rcases b2 with _ | _))
  all_goals (try (rcases b3 with _ | _))
  all_goals
    go_quiet ((first | (go_at_call 27; first | with_reducible exact quiet_left_any (HD.out _) | with_reducible exact quiet_add_any (HD.out _)) | (go_at_call 30; first | with_reducible exact quiet_left_any (H1.out _) | with_reducible exact quiet_add_any (H1.out _) | with_reducible exact quiet_left_any (H2.out _) | with_reducible exact quiet_add_any (H2.out _) | with_reducible exact quiet_left_any (H3.out _) | with_reducible exact quiet_add_any (H3.out _) | with_reducible exact quiet_left_any (H4.out _) | with_reducible exact quiet_add_any (H4.out _))))
    go_wp2_with fail
    go_ret
    exact ⟨rfl, below_drewN Q1.out _⟩
end Go.Proofs.YtneeddbonhiflaaDoor
