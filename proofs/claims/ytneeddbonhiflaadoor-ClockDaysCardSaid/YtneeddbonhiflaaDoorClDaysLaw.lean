/-
  The walk of ClockDays over what its callees are asked to keep (their contracts are its premises).
-/
import Derived.Test.YtneeddbonhiflaaDoorClDays
namespace Go.Proofs.YtneeddbonhiflaaDoor
open Go.RowKit

theorem ok_day (y m d : Int) : okT ⟨y, m, d, 0, 0, 0⟩ = decide (1 ≤ d ∧ d ≤ dys y m) := by
  unfold okT
  dsimp only
  rw [show decide ((0 : Int) ≤ 0 ∧ (0 : Int) ≤ 23) = true from rfl, show decide ((0 : Int) ≤ 0 ∧ (0 : Int) ≤ 59) = true from rfl]
  cases decide (1 ≤ d ∧ d ≤ dys y m) <;> rfl

set_option maxRecDepth 100000 in
set_option maxHeartbeats 4000000 in
theorem days_walk (y m d : Int) (w : World)
    (HA : ∀ v : World, Below w.heap.size w v → Calls Tryd.prog 8 #[] v fun e w' => e = .returned (.bool true) ∧ Below v.heap.size v w')
    (HP : ∀ (y m : Int) (v : World), Below w.heap.size w v → Calls Tryd.prog 26 #[.int .i64 y, .int .i64 m] v fun e w' => e = .returned (.int .i64 (dys y m)) ∧ Below v.heap.size v w')
    (HV : ∀ (t : Tm) (v : World), Below w.heap.size w v → Calls Tryd.prog 14 #[tmV t] v fun e w' => e = .returned (.bool (okT t)) ∧ Below v.heap.size v w') :
    Calls Tryd.prog 7 #[.int .i64 y, .int .i64 m, .int .i64 d] w fun e w' => e = .returned (.bool true) ∧ Below w.heap.size w w' := by
  have H1 := Lib.hid HA
  have H2 := Lib.hid (HP y m)
  have H3 := Lib.hid (HV ⟨y, m, d, 0, 0, 0⟩)
  have H4 := Lib.hid (fun v => days_any y m v)
  unfold tmV at H3
  rw [ok_day] at H3
  dsimp only at H3
  clear HA HP HV
  generalize dys y m = D at *
  by_cases h1 : 1 ≤ d
  · by_cases h2 : d ≤ D
    · rw [decide_eq_true ⟨h1, h2⟩] at H3
      have Q0 := Lib.hid (Below.refl w.heap.size w)
      go_enter Tryd.func7, Tryd.ntmps7
      go_wp2_with fail
      with_reducible refine (H1.out _ Q0.out).mono ?_
      rintro e w1 ⟨rfl, q⟩
      have Q1 := Lib.hid (bthen Q0.out q)
      clear q
      go_wp2_with fail
      with_reducible refine (H2.out _ Q1.out).mono ?_
      rintro e w2 ⟨rfl, q⟩
      have Q2 := Lib.hid (bthen Q1.out q)
      clear q
      go_wp2_with fail
      with_reducible refine (H4.out _).mono ?_
      rintro e w2 ⟨rfl, rfl⟩
      go_wp2_with fail
      with_reducible refine (H3.out _ Q2.out).mono ?_
      rintro e w3 ⟨rfl, q⟩
      have Q3 := Lib.hid (bthen Q2.out q)
      clear q
      go_wp2_with fail
      go_ret
      exact ⟨rfl, Q3.out⟩
    · rw [decide_eq_false (fun h => h2 h.2)] at H3
      have Q0 := Lib.hid (Below.refl w.heap.size w)
      go_enter Tryd.func7, Tryd.ntmps7
      go_wp2_with fail
      with_reducible refine (H1.out _ Q0.out).mono ?_
      rintro e w1 ⟨rfl, q⟩
      have Q1 := Lib.hid (bthen Q0.out q)
      clear q
      go_wp2_with fail
      with_reducible refine (H2.out _ Q1.out).mono ?_
      rintro e w2 ⟨rfl, q⟩
      have Q2 := Lib.hid (bthen Q1.out q)
      clear q
      go_wp2_with fail
      with_reducible refine (H4.out _).mono ?_
      rintro e w2 ⟨rfl, rfl⟩
      go_wp2_with fail
      with_reducible refine (H3.out _ Q2.out).mono ?_
      rintro e w3 ⟨rfl, q⟩
      have Q3 := Lib.hid (bthen Q2.out q)
      clear q
      go_wp2_with fail
      go_ret
      exact ⟨by show Ending.returned (.bool (!decide (d ≤ D))) = _; rw [show decide (d ≤ D) = false from decide_eq_false (by omega)]; rfl, Q3.out⟩
  · rw [decide_eq_false (fun h => h1 h.1)] at H3
    have Q0 := Lib.hid (Below.refl w.heap.size w)
    go_enter Tryd.func7, Tryd.ntmps7
    go_wp2_with fail
    with_reducible refine (H1.out _ Q0.out).mono ?_
    rintro e w1 ⟨rfl, q⟩
    have Q1 := Lib.hid (bthen Q0.out q)
    clear q
    go_wp2_with fail
    with_reducible refine (H2.out _ Q1.out).mono ?_
    rintro e w2 ⟨rfl, q⟩
    have Q2 := Lib.hid (bthen Q1.out q)
    clear q
    go_wp2_with fail
    with_reducible refine (H4.out _).mono ?_
    rintro e w2 ⟨rfl, rfl⟩
    go_wp2_with fail
    with_reducible refine (H3.out _ Q2.out).mono ?_
    rintro e w3 ⟨rfl, q⟩
    have Q3 := Lib.hid (bthen Q2.out q)
    clear q
    go_wp2_with fail
    go_ret
    exact ⟨rfl, Q3.out⟩
end Go.Proofs.YtneeddbonhiflaaDoor
