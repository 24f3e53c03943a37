/-
  The walk of the law IntegerSimple.
-/
import Derived.Test.YtammegdfjgphkaaDoorIntAwake
namespace Go.Proofs.YtammegdfjgphkaaDoor.integerSimple
open Go.RowKit

theorem bo_back (v : Bool) : boV (boB v) = v ∧ boC (boB v) = 0 := by cases v <;> decide
theorem bo_cases (l : List UInt8) : (boC l = 0 ∧ boB (boV l) = l) ∨ (boC l = 6 ∧ boV l = false) := by
  by_cases h0 : l = [0]
  · subst h0; left; decide
  · by_cases h1 : l = [255]
    · subst h1; left; decide
    · right
      exact ⟨(bo_other (by simpa [eqB] using h0) (by simpa [eqB] using h1)).2, (bo_other (by simpa [eqB] using h0) (by simpa [eqB] using h1)).1⟩

set_option maxRecDepth 100000 in
set_option maxHeartbeats 2000000 in
theorem walk {w : World} {a : Option Addr} {n c : Nat} {l : List UInt8} {v : Bool} (b0 : Bs w a n c l) :
    Calls Tryd.prog 3 #[.slice a n c, .bool v] w fun e w' => e = .returned (.bool true) ∧ Below w.heap.size w w' := by
  have HA := Lib.hid (awakeInt_any)
  have HX := Lib.hid b0
  clear b0
  by_cases hs : n ≤ 2000
  · have hs' : ¬ (2000 : Int) < n := by omega
    have H1 := Lib.hid (fun w (h : Bs w a n c l) => boolean_any h)
    have H2 := Lib.hid (fun w (h : Bs w a n c l) => ref_boolean_any h)
    have H3 := Lib.hid (fun v w => fromBoolean_any v w)
    have H4 := Lib.hid (fun w a (h : Bs w a 1 1 (boB v)) => boolean_any h)
    rw [(bo_back v).1, (bo_back v).2] at H4
    have H5 := Lib.hid (fun w => null_any (w := w) (a := a) (n := n) (c := c))
    have hcs := bo_cases l
    obtain ⟨C, hC⟩ : ∃ C, boC l = C := ⟨_, rfl⟩
    obtain ⟨b, hb⟩ : ∃ b, boV l = b := ⟨_, rfl⟩
    rw [hC, hb] at H1 H2 hcs
    clear hC hb
    go_enter Tryd.func3, Tryd.ntmps3
    go_wp2_with fail
    with_reducible refine (HA.out _).mono ?_
    rintro e w1 ⟨rfl, q1⟩
    go_wp2_with fail
    with_reducible refine (H1.out _ (HX.out.below q1)).mono ?_
    rintro e w2 ⟨rfl, q⟩
    have Q2 := Lib.hid (bthen q1 q)
    clear q q1
    go_wp2_with fail
    with_reducible refine (H2.out _ (HX.out.below Q2.out)).mono ?_
    rintro e w3 ⟨rfl, rfl⟩
    go_wp2_with fail
    with_reducible refine (H3.out _ _).mono ?_
    rintro e w3 ⟨a3, rfl, hb3, q⟩
    have Q3 := Lib.hid (bthen Q2.out q)
    clear q Q2
    go_wp2_with fail
    with_reducible refine (H4.out _ _ hb3).mono ?_
    rintro e w4 ⟨rfl, q⟩
    have Q4 := Lib.hid (bthen Q3.out q)
    clear q Q3 hb3
    by_cases hn0 : 0 < n
    · rw [if_pos hn0] at H5
      have hn1 : (0 : Int) < n := by omega
      have hn2 : ((n : Int) == 0) = false := by simp; omega
      rcases hcs with ⟨rfl, hcb⟩ | ⟨rfl, rfl⟩
      · have HCB := Lib.hid hcb
        clear hcb
        go_wp2_with (first | (go_at_call 13; (with_reducible refine (H5.out _).mono ?_); rintro e w5 ⟨rfl, rfl⟩) | (go_at_call 12; (with_reducible refine (H3.out _ _).mono ?_); rintro e w6 ⟨a6, rfl, hb6, q6⟩) | (go_at_call 14; (with_reducible refine (bytes_any hb6 (HX.out.below (bthen Q4.out q6))).mono ?_); rintro e w7 ⟨rfl, rfl⟩; rw [HCB.out, eqB_self]))
        go_ret
        exact ⟨rfl, bthen Q4.out q6⟩
      · go_wp2_with (first | (go_at_call 13; (with_reducible refine (H5.out _).mono ?_); rintro e w5 ⟨rfl, rfl⟩) | (go_at_call 12; (with_reducible refine (H3.out _ _).mono ?_); rintro e w6 ⟨a6, rfl, hb6, q6⟩) | (go_at_call 14; (with_reducible refine (bytes_any hb6 (HX.out.below (bthen Q4.out q6))).mono ?_); rintro e w7 ⟨rfl, rfl⟩))
        go_ret
        exact ⟨rfl, Q4.out⟩
    · rw [if_neg hn0] at H5
      have hn3 : n = 0 := by omega
      subst hn3
      rcases hcs with ⟨rfl, hcb⟩ | ⟨rfl, rfl⟩
      · have HCB := Lib.hid hcb
        clear hcb
        go_wp2_with (first | (go_at_call 13; (with_reducible refine (H5.out _).mono ?_); rintro e w5 ⟨rfl, rfl⟩) | (go_at_call 12; (with_reducible refine (H3.out _ _).mono ?_); rintro e w6 ⟨a6, rfl, hb6, q6⟩) | (go_at_call 14; (with_reducible refine (bytes_any hb6 (HX.out.below (bthen Q4.out q6))).mono ?_); rintro e w7 ⟨rfl, rfl⟩; rw [HCB.out, eqB_self]))
        go_ret
        exact ⟨rfl, bthen Q4.out q6⟩
      · go_wp2_with (first | (go_at_call 13; (with_reducible refine (H5.out _).mono ?_); rintro e w5 ⟨rfl, rfl⟩) | (go_at_call 12; (with_reducible refine (H3.out _ _).mono ?_); rintro e w6 ⟨a6, rfl, hb6, q6⟩) | (go_at_call 14; (with_reducible refine (bytes_any hb6 (HX.out.below (bthen Q4.out q6))).mono ?_); rintro e w7 ⟨rfl, rfl⟩))
        go_ret
        exact ⟨rfl, Q4.out⟩
  · have hs' : (2000 : Int) < n := by omega
    go_enter Tryd.func3, Tryd.ntmps3
    go_wp2_with fail
    with_reducible refine (HA.out _).mono ?_
    rintro e w1 ⟨rfl, q1⟩
    go_wp2_with fail
    with_reducible refine (HA.out _).mono ?_
    rintro e w2 ⟨rfl, q2⟩
    go_wp2_with fail
    go_ret
    exact ⟨rfl, bthen q1 q2⟩
end Go.Proofs.YtammegdfjgphkaaDoor.integerSimple
