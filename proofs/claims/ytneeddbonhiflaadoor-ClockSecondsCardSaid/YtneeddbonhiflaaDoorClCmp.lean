/-
  Contract of the reference's Compare.
-/
import Derived.Test.YtneeddbonhiflaaDoorClEnc
import Derived.LoopTactic
import Derived.BigRegion
import Derived.BigQuiet
namespace Go.Proofs.YtneeddbonhiflaaDoor
open Go.RowKit

def cmpJ (y1 m1 d1 h1 i1 s1 y2 m2 d2 h2 i2 s2 : Int) : Nat → Int
  | 0 => cmpI2 y1 y2 (cmpI2 m1 m2 (cmpI2 d1 d2 (cmpI2 h1 h2 (cmpI2 i1 i2 (cmpI2 s1 s2 (0))))))
  | 1 => cmpI2 m1 m2 (cmpI2 d1 d2 (cmpI2 h1 h2 (cmpI2 i1 i2 (cmpI2 s1 s2 (0)))))
  | 2 => cmpI2 d1 d2 (cmpI2 h1 h2 (cmpI2 i1 i2 (cmpI2 s1 s2 (0))))
  | 3 => cmpI2 h1 h2 (cmpI2 i1 i2 (cmpI2 s1 s2 (0)))
  | 4 => cmpI2 i1 i2 (cmpI2 s1 s2 (0))
  | 5 => cmpI2 s1 s2 (0)
  | _ => 0
theorem le_six {j : Nat} (h : j ≤ 6) : j = 0 ∨ j = 1 ∨ j = 2 ∨ j = 3 ∨ j = 4 ∨ j = 5 ∨ j = 6 := by omega
set_option maxRecDepth 100000 in
set_option maxHeartbeats 8000000 in
theorem compare_any (x y : Tm) (w : World) :
    Calls Tryd.prog 23 #[tmV x, tmV y] w fun e w' => e = .returned (.int .i64 (cmpT x y)) ∧ Below w.heap.size w w' := by
  obtain ⟨y1, m1, d1, h1, i1, s1⟩ := x
  obtain ⟨y2, m2, d2, h2, i2, s2⟩ := y
  unfold tmV
  dsimp only
  obtain ⟨C, hC⟩ : ∃ C, cmpT ⟨y1, m1, d1, h1, i1, s1⟩ ⟨y2, m2, d2, h2, i2, s2⟩ = C := ⟨_, rfl⟩
  have HC0 : Hid (cmpJ y1 m1 d1 h1 i1 s1 y2 m2 d2 h2 i2 s2 0 = C) := hC
  rw [hC]
  clear hC
  go_enter Tryd.func23, Tryd.ntmps23
  go_wp2_with fail
  generalize hG : w.heap.size + 1 + 1 = G
  generalize hF : G + 1 = F
  obtain ⟨w4, hw4⟩ : ∃ w4, (((w.alloc (.cells #[.int .i64 y1, .int .i64 m1, .int .i64 d1, .int .i64 h1, .int .i64 i1, .int .i64 s1] 23)).alloc (.cells #[.int .i64 y2, .int .i64 m2, .int .i64 d2, .int .i64 h2, .int .i64 i2, .int .i64 s2] 23)).alloc (.cells #[.int .i64 y1, .int .i64 m1, .int .i64 d1, .int .i64 h1, .int .i64 i1, .int .i64 s1] 3)).alloc (.cells #[.int .i64 y2, .int .i64 m2, .int .i64 d2, .int .i64 h2, .int .i64 i2, .int .i64 s2] 3) = w4 := ⟨_, rfl⟩
  have K4 : Hid (Blk w4 G 3 #[.int .i64 y1, .int .i64 m1, .int .i64 d1, .int .i64 h1, .int .i64 i1, .int .i64 s1]) := by
    rw [← hw4, ← hG]
    have := (Blk.new ((w.alloc (.cells #[.int .i64 y1, .int .i64 m1, .int .i64 d1, .int .i64 h1, .int .i64 i1, .int .i64 s1] 23)).alloc (.cells #[.int .i64 y2, .int .i64 m2, .int .i64 d2, .int .i64 h2, .int .i64 i2, .int .i64 s2] 23)) 3 #[.int .i64 y1, .int .i64 m1, .int .i64 d1, .int .i64 h1, .int .i64 i1, .int .i64 s1]).alloc (.cells #[.int .i64 y2, .int .i64 m2, .int .i64 d2, .int .i64 h2, .int .i64 i2, .int .i64 s2] 3)
    rw [Hid]
    simpa using this
  have F4 : Hid (Blk w4 F 3 #[.int .i64 y2, .int .i64 m2, .int .i64 d2, .int .i64 h2, .int .i64 i2, .int .i64 s2]) := by
    rw [← hw4, ← hF, ← hG]
    have := Blk.new (((w.alloc (.cells #[.int .i64 y1, .int .i64 m1, .int .i64 d1, .int .i64 h1, .int .i64 i1, .int .i64 s1] 23)).alloc (.cells #[.int .i64 y2, .int .i64 m2, .int .i64 d2, .int .i64 h2, .int .i64 i2, .int .i64 s2] 23)).alloc (.cells #[.int .i64 y1, .int .i64 m1, .int .i64 d1, .int .i64 h1, .int .i64 i1, .int .i64 s1] 3)) 3 #[.int .i64 y2, .int .i64 m2, .int .i64 d2, .int .i64 h2, .int .i64 i2, .int .i64 s2]
    rw [Hid]
    simpa using this
  have Q4 : Hid (Below w.heap.size w w4) := by
    rw [← hw4]
    exact bal (bal (bal (bal (Below.refl _ _) _) _) _) _
  rw [hw4]
  clear hw4 hG hF
  go_loopw [7] (fun i wr => ∃ j : Nat, j ≤ 6 ∧ i = .int .i64 j ∧ cmpJ y1 m1 d1 h1 i1 s1 y2 m2 d2 h2 i2 s2 j = C ∧ Blk wr G 3 #[.int .i64 y1, .int .i64 m1, .int .i64 d1, .int .i64 h1, .int .i64 i1, .int .i64 s1] ∧ Blk wr F 3 #[.int .i64 y2, .int .i64 m2, .int .i64 d2, .int .i64 h2, .int .i64 i2, .int .i64 s2] ∧ Below w.heap.size w wr) (fun i _ => 6 - (intOf i).toNat)
  case atStart => exact ⟨0, by omega, rfl, HC0.out, K4.out, F4.out, Q4.out⟩
  case round =>
    obtain ⟨j, hj, rfl, hc, hk, hf, q⟩ := hrel
    have HC := Lib.hid hc
    have K := Lib.hid hk
    have F5 := Lib.hid hf
    have Q := Lib.hid q
    clear hc hk hf q HC0 K4 F4 Q4
    obtain ⟨k0, k1, k2, k3, k4, k5⟩ := K.out.cells6
    obtain ⟨f0, f1, f2, f3, f4, f5⟩ := F5.out.cells6
    rcases le_six hj with rfl | rfl | rfl | rfl | rfl | rfl | rfl
    · clear hj
      have HC2 : Hid (cmpI2 y1 y2 (cmpJ y1 m1 d1 h1 i1 s1 y2 m2 d2 h2 i2 s2 1) = C) := HC.out
      rcases Int.lt_trichotomy y1 y2 with hlt | heq | hgt
      · have e := HC2.out
        rw [cmpI2_lt _ hlt] at e
        subst e
        go_wp2_with fail
        go_quiet (fail)
        go_wp2_with fail
        go_ret
        exact ⟨rfl, by first | exact below_drewN Q.out _ | exact below_drewN (below_drewN Q.out _) _⟩
      · have e := HC2.out
        subst heq
        rw [cmpI2_eq] at e
        have hnl : ¬ y1 < y1 := by omega
        go_wp2_with fail
        go_quiet (fail)
        go_wp2_with fail
        go_quiet (fail)
        go_wp2_with fail
        exact ⟨⟨1, by omega, rfl, e, K.out.drewN _, F5.out.drewN _, below_drewN Q.out _⟩, by simp [intOf]⟩
      · have e := HC2.out
        rw [cmpI2_gt _ hgt] at e
        subst e
        have hnl : ¬ y1 < y2 := by omega
        go_wp2_with fail
        go_quiet (fail)
        go_wp2_with fail
        go_quiet (fail)
        go_wp2_with fail
        go_ret
        exact ⟨rfl, by first | exact below_drewN Q.out _ | exact below_drewN (below_drewN Q.out _) _⟩
    · clear hj
      have HC2 : Hid (cmpI2 m1 m2 (cmpJ y1 m1 d1 h1 i1 s1 y2 m2 d2 h2 i2 s2 2) = C) := HC.out
      rcases Int.lt_trichotomy m1 m2 with hlt | heq | hgt
      · have e := HC2.out
        rw [cmpI2_lt _ hlt] at e
        subst e
        go_wp2_with fail
        go_quiet (fail)
        go_wp2_with fail
        go_ret
        exact ⟨rfl, by first | exact below_drewN Q.out _ | exact below_drewN (below_drewN Q.out _) _⟩
      · have e := HC2.out
        subst heq
        rw [cmpI2_eq] at e
        have hnl : ¬ m1 < m1 := by omega
        go_wp2_with fail
        go_quiet (fail)
        go_wp2_with fail
        go_quiet (fail)
        go_wp2_with fail
        exact ⟨⟨2, by omega, rfl, e, K.out.drewN _, F5.out.drewN _, below_drewN Q.out _⟩, by simp [intOf]⟩
      · have e := HC2.out
        rw [cmpI2_gt _ hgt] at e
        subst e
        have hnl : ¬ m1 < m2 := by omega
        go_wp2_with fail
        go_quiet (fail)
        go_wp2_with fail
        go_quiet (fail)
        go_wp2_with fail
        go_ret
        exact ⟨rfl, by first | exact below_drewN Q.out _ | exact below_drewN (below_drewN Q.out _) _⟩
    · clear hj
      have HC2 : Hid (cmpI2 d1 d2 (cmpJ y1 m1 d1 h1 i1 s1 y2 m2 d2 h2 i2 s2 3) = C) := HC.out
      rcases Int.lt_trichotomy d1 d2 with hlt | heq | hgt
      · have e := HC2.out
        rw [cmpI2_lt _ hlt] at e
        subst e
        go_wp2_with fail
        go_quiet (fail)
        go_wp2_with fail
        go_ret
        exact ⟨rfl, by first | exact below_drewN Q.out _ | exact below_drewN (below_drewN Q.out _) _⟩
      · have e := HC2.out
        subst heq
        rw [cmpI2_eq] at e
        have hnl : ¬ d1 < d1 := by omega
        go_wp2_with fail
        go_quiet (fail)
        go_wp2_with fail
        go_quiet (fail)
        go_wp2_with fail
        exact ⟨⟨3, by omega, rfl, e, K.out.drewN _, F5.out.drewN _, below_drewN Q.out _⟩, by simp [intOf]⟩
      · have e := HC2.out
        rw [cmpI2_gt _ hgt] at e
        subst e
        have hnl : ¬ d1 < d2 := by omega
        go_wp2_with fail
        go_quiet (fail)
        go_wp2_with fail
        go_quiet (fail)
        go_wp2_with fail
        go_ret
        exact ⟨rfl, by first | exact below_drewN Q.out _ | exact below_drewN (below_drewN Q.out _) _⟩
    · clear hj
      have HC2 : Hid (cmpI2 h1 h2 (cmpJ y1 m1 d1 h1 i1 s1 y2 m2 d2 h2 i2 s2 4) = C) := HC.out
      rcases Int.lt_trichotomy h1 h2 with hlt | heq | hgt
      · have e := HC2.out
        rw [cmpI2_lt _ hlt] at e
        subst e
        go_wp2_with fail
        go_quiet (fail)
        go_wp2_with fail
        go_ret
        exact ⟨rfl, by first | exact below_drewN Q.out _ | exact below_drewN (below_drewN Q.out _) _⟩
      · have e := HC2.out
        subst heq
        rw [cmpI2_eq] at e
        have hnl : ¬ h1 < h1 := by omega
        go_wp2_with fail
        go_quiet (fail)
        go_wp2_with fail
        go_quiet (fail)
        go_wp2_with fail
        exact ⟨⟨4, by omega, rfl, e, K.out.drewN _, F5.out.drewN _, below_drewN Q.out _⟩, by simp [intOf]⟩
      · have e := HC2.out
        rw [cmpI2_gt _ hgt] at e
        subst e
        have hnl : ¬ h1 < h2 := by omega
        go_wp2_with fail
        go_quiet (fail)
        go_wp2_with fail
        go_quiet (fail)
        go_wp2_with fail
        go_ret
        exact ⟨rfl, by first | exact below_drewN Q.out _ | exact below_drewN (below_drewN Q.out _) _⟩
    · clear hj
      have HC2 : Hid (cmpI2 i1 i2 (cmpJ y1 m1 d1 h1 i1 s1 y2 m2 d2 h2 i2 s2 5) = C) := HC.out
      rcases Int.lt_trichotomy i1 i2 with hlt | heq | hgt
      · have e := HC2.out
        rw [cmpI2_lt _ hlt] at e
        subst e
        go_wp2_with fail
        go_quiet (fail)
        go_wp2_with fail
        go_ret
        exact ⟨rfl, by first | exact below_drewN Q.out _ | exact below_drewN (below_drewN Q.out _) _⟩
      · have e := HC2.out
        subst heq
        rw [cmpI2_eq] at e
        have hnl : ¬ i1 < i1 := by omega
        go_wp2_with fail
        go_quiet (fail)
        go_wp2_with fail
        go_quiet (fail)
        go_wp2_with fail
        exact ⟨⟨5, by omega, rfl, e, K.out.drewN _, F5.out.drewN _, below_drewN Q.out _⟩, by simp [intOf]⟩
      · have e := HC2.out
        rw [cmpI2_gt _ hgt] at e
        subst e
        have hnl : ¬ i1 < i2 := by omega
        go_wp2_with fail
        go_quiet (fail)
        go_wp2_with fail
        go_quiet (fail)
        go_wp2_with fail
        go_ret
        exact ⟨rfl, by first | exact below_drewN Q.out _ | exact below_drewN (below_drewN Q.out _) _⟩
    · clear hj
      have HC2 : Hid (cmpI2 s1 s2 (cmpJ y1 m1 d1 h1 i1 s1 y2 m2 d2 h2 i2 s2 6) = C) := HC.out
      rcases Int.lt_trichotomy s1 s2 with hlt | heq | hgt
      · have e := HC2.out
        rw [cmpI2_lt _ hlt] at e
        subst e
        go_wp2_with fail
        go_quiet (fail)
        go_wp2_with fail
        go_ret
        exact ⟨rfl, by first | exact below_drewN Q.out _ | exact below_drewN (below_drewN Q.out _) _⟩
      · have e := HC2.out
        subst heq
        rw [cmpI2_eq] at e
        have hnl : ¬ s1 < s1 := by omega
        go_wp2_with fail
        go_quiet (fail)
        go_wp2_with fail
        go_quiet (fail)
        go_wp2_with fail
        exact ⟨⟨6, by omega, rfl, e, K.out.drewN _, F5.out.drewN _, below_drewN Q.out _⟩, by simp [intOf]⟩
      · have e := HC2.out
        rw [cmpI2_gt _ hgt] at e
        subst e
        have hnl : ¬ s1 < s2 := by omega
        go_wp2_with fail
        go_quiet (fail)
        go_wp2_with fail
        go_quiet (fail)
        go_wp2_with fail
        go_ret
        exact ⟨rfl, by first | exact below_drewN Q.out _ | exact below_drewN (below_drewN Q.out _) _⟩
    · clear hj
      have e := HC.out
      subst e
      go_wp2_with fail
      go_ret
      exact ⟨rfl, Q.out⟩
end Go.Proofs.YtneeddbonhiflaaDoor
