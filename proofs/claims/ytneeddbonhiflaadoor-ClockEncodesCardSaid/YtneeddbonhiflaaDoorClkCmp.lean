/-
  Contracts of cmp.Compare, cmp.Or and the program's Compare.
-/
import Derived.Test.YtneeddbonhiflaaDoorClEnc
import Derived.LoopTactic
import Derived.StillTailTactics
namespace Go.Proofs.YtneeddbonhiflaaDoor
open Go.RowKit

set_option maxRecDepth 100000 in
theorem isnan_any (a : Int) (w : World) : Calls Tryd.prog 41 #[.int .i64 a] w fun e w' => e = .returned (.bool false) ∧ w' = w := by
  go_enter Tryd.func41, Tryd.ntmps41
  go_wp2_with fail
  go_ret
  exact ⟨by simp, rfl⟩
set_option maxRecDepth 100000 in
set_option maxHeartbeats 2000000 in
theorem ccmp_any (a b : Int) (w : World) : Calls Tryd.prog 37 #[.int .i64 a, .int .i64 b] w fun e w' => e = .returned (.int .i64 (cmpI2 a b 0)) ∧ w' = w := by
  have HA := Lib.hid (fun v => isnan_any a v)
  have HB := Lib.hid (fun v => isnan_any b v)
  rcases Int.lt_trichotomy a b with hlt | heq | hgt
  · rw [cmpI2_lt _ hlt]
    go_enter Tryd.func37, Tryd.ntmps37
    go_wp2_with fail
    with_reducible refine (HA.out _).mono ?_
    rintro e w1 ⟨rfl, rfl⟩
    go_wp2_with fail
    with_reducible refine (HB.out _).mono ?_
    rintro e w1 ⟨rfl, rfl⟩
    go_wp2_with fail
    go_ret
    exact ⟨rfl, rfl⟩
  · subst heq
    rw [cmpI2_eq]
    have hnl : ¬ a < a := by omega
    go_enter Tryd.func37, Tryd.ntmps37
    go_wp2_with fail
    with_reducible refine (HA.out _).mono ?_
    rintro e w1 ⟨rfl, rfl⟩
    go_wp2_with fail
    with_reducible refine (HB.out _).mono ?_
    rintro e w1 ⟨rfl, rfl⟩
    go_wp2_with fail
    go_ret
    exact ⟨rfl, rfl⟩
  · rw [cmpI2_gt _ hgt]
    have hnl : ¬ a < b := by omega
    go_enter Tryd.func37, Tryd.ntmps37
    go_wp2_with fail
    with_reducible refine (HA.out _).mono ?_
    rintro e w1 ⟨rfl, rfl⟩
    go_wp2_with fail
    with_reducible refine (HB.out _).mono ?_
    rintro e w1 ⟨rfl, rfl⟩
    go_wp2_with fail
    go_ret
    exact ⟨rfl, rfl⟩

def or2 (a r : Int) : Int := if a = 0 then r else a
theorem or2_zero (r : Int) : or2 0 r = r := rfl
theorem or2_ne {a : Int} (r : Int) (h : a ≠ 0) : or2 a r = a := if_neg h
theorem or2_cmp (a b r : Int) : or2 (cmpI2 a b 0) r = cmpI2 a b r := by
  rcases Int.lt_trichotomy a b with hlt | heq | hgt
  · rw [cmpI2_lt _ hlt, cmpI2_lt _ hlt]; rfl
  · subst heq; rw [cmpI2_eq, cmpI2_eq]; rfl
  · rw [cmpI2_gt _ hgt, cmpI2_gt _ hgt]; rfl
def orJ (v0 v1 v2 v3 v4 v5 : Int) : Nat → Int
  | 0 => or2 v0 (or2 v1 (or2 v2 (or2 v3 (or2 v4 (or2 v5 (0))))))
  | 1 => or2 v1 (or2 v2 (or2 v3 (or2 v4 (or2 v5 (0)))))
  | 2 => or2 v2 (or2 v3 (or2 v4 (or2 v5 (0))))
  | 3 => or2 v3 (or2 v4 (or2 v5 (0)))
  | 4 => or2 v4 (or2 v5 (0))
  | 5 => or2 v5 (0)
  | _ => 0
theorem le_six' {j : Nat} (h : j ≤ 6) : j = 0 ∨ j = 1 ∨ j = 2 ∨ j = 3 ∨ j = 4 ∨ j = 5 ∨ j = 6 := by omega
set_option maxRecDepth 100000 in
set_option maxHeartbeats 4000000 in
theorem or_any (v0 v1 v2 v3 v4 v5 : Int) (w : World) (G : Nat) (hk : Blk w G 3 #[.int .i64 v0, .int .i64 v1, .int .i64 v2, .int .i64 v3, .int .i64 v4, .int .i64 v5]) :
    Calls Tryd.prog 36 #[.slice (some ⟨G, 0, none⟩) 6 6] w fun e w' => e = .returned (.int .i64 (orJ v0 v1 v2 v3 v4 v5 0)) ∧ w' = w := by
  obtain ⟨C, hC⟩ : ∃ C, orJ v0 v1 v2 v3 v4 v5 0 = C := ⟨_, rfl⟩
  have HC0 : Hid (orJ v0 v1 v2 v3 v4 v5 0 = C) := hC
  rw [hC]
  clear hC
  obtain ⟨k0, k1, k2, k3, k4, k5⟩ := hk.cells6
  go_enter Tryd.func36, Tryd.ntmps36
  go_wp2_with fail
  go_loopw [8] (fun i wr => ∃ j : Nat, j ≤ 6 ∧ i = .int .i64 j ∧ orJ v0 v1 v2 v3 v4 v5 j = C ∧ wr = w) (fun i _ => 6 - (intOf i).toNat)
  case atStart => exact ⟨0, by omega, rfl, HC0.out, rfl⟩
  case round =>
    obtain ⟨j, hj, rfl, hc, rfl⟩ := hrel
    have HC := Lib.hid hc
    clear hc HC0
    rcases le_six' hj with rfl | rfl | rfl | rfl | rfl | rfl | rfl
    · clear hj
      have HC2 : Hid (or2 v0 (orJ v0 v1 v2 v3 v4 v5 1) = C) := HC.out
      by_cases hz : v0 = 0
      · have e := HC2.out
        subst hz
        rw [or2_zero] at e
        go_wp2_with fail
        exact ⟨⟨1, by omega, rfl, e, by first | rfl | trivial⟩, by simp [intOf]⟩
      · have e := HC2.out
        rw [or2_ne _ hz] at e
        subst e
        have hz2 : (v0 != 0) = true := by simp [hz]
        go_wp2_with fail
        go_ret
        exact ⟨rfl, rfl⟩
    · clear hj
      have HC2 : Hid (or2 v1 (orJ v0 v1 v2 v3 v4 v5 2) = C) := HC.out
      by_cases hz : v1 = 0
      · have e := HC2.out
        subst hz
        rw [or2_zero] at e
        go_wp2_with fail
        exact ⟨⟨2, by omega, rfl, e, by first | rfl | trivial⟩, by simp [intOf]⟩
      · have e := HC2.out
        rw [or2_ne _ hz] at e
        subst e
        have hz2 : (v1 != 0) = true := by simp [hz]
        go_wp2_with fail
        go_ret
        exact ⟨rfl, rfl⟩
    · clear hj
      have HC2 : Hid (or2 v2 (orJ v0 v1 v2 v3 v4 v5 3) = C) := HC.out
      by_cases hz : v2 = 0
      · have e := HC2.out
        subst hz
        rw [or2_zero] at e
        go_wp2_with fail
        exact ⟨⟨3, by omega, rfl, e, by first | rfl | trivial⟩, by simp [intOf]⟩
      · have e := HC2.out
        rw [or2_ne _ hz] at e
        subst e
        have hz2 : (v2 != 0) = true := by simp [hz]
        go_wp2_with fail
        go_ret
        exact ⟨rfl, rfl⟩
    · clear hj
      have HC2 : Hid (or2 v3 (orJ v0 v1 v2 v3 v4 v5 4) = C) := HC.out
      by_cases hz : v3 = 0
      · have e := HC2.out
        subst hz
        rw [or2_zero] at e
        go_wp2_with fail
        exact ⟨⟨4, by omega, rfl, e, by first | rfl | trivial⟩, by simp [intOf]⟩
      · have e := HC2.out
        rw [or2_ne _ hz] at e
        subst e
        have hz2 : (v3 != 0) = true := by simp [hz]
        go_wp2_with fail
        go_ret
        exact ⟨rfl, rfl⟩
    · clear hj
      have HC2 : Hid (or2 v4 (orJ v0 v1 v2 v3 v4 v5 5) = C) := HC.out
      by_cases hz : v4 = 0
      · have e := HC2.out
        subst hz
        rw [or2_zero] at e
        go_wp2_with fail
        exact ⟨⟨5, by omega, rfl, e, by first | rfl | trivial⟩, by simp [intOf]⟩
      · have e := HC2.out
        rw [or2_ne _ hz] at e
        subst e
        have hz2 : (v4 != 0) = true := by simp [hz]
        go_wp2_with fail
        go_ret
        exact ⟨rfl, rfl⟩
    · clear hj
      have HC2 : Hid (or2 v5 (orJ v0 v1 v2 v3 v4 v5 6) = C) := HC.out
      by_cases hz : v5 = 0
      · have e := HC2.out
        subst hz
        rw [or2_zero] at e
        go_wp2_with fail
        exact ⟨⟨6, by omega, rfl, e, by first | rfl | trivial⟩, by simp [intOf]⟩
      · have e := HC2.out
        rw [or2_ne _ hz] at e
        subst e
        have hz2 : (v5 != 0) = true := by simp [hz]
        go_wp2_with fail
        go_ret
        exact ⟨rfl, rfl⟩
    · have e : (0 : Int) = C := HC.out
      subst e
      go_wp2_with fail
      go_ret
      exact ⟨rfl, rfl⟩

set_option maxRecDepth 100000 in
set_option maxHeartbeats 8000000 in
theorem pcompare_any (x y : Tm) (w : World) :
    Calls Tryd.prog 22 #[tmV x, tmV y] w fun e w' => e = .returned (.int .i64 (cmpT x y)) ∧ Below w.heap.size w w' := by
  obtain ⟨y1, m1, d1, h1, i1, s1⟩ := x
  obtain ⟨y2, m2, d2, h2, i2, s2⟩ := y
  unfold tmV
  dsimp only
  have HC : cmpT ⟨y1, m1, d1, h1, i1, s1⟩ ⟨y2, m2, d2, h2, i2, s2⟩ = orJ (cmpI2 y1 y2 0) (cmpI2 m1 m2 0) (cmpI2 d1 d2 0) (cmpI2 h1 h2 0) (cmpI2 i1 i2 0) (cmpI2 s1 s2 0) 0 := by
    show _ = or2 _ (or2 _ (or2 _ (or2 _ (or2 _ (or2 _ _)))))
    rw [or2_cmp, or2_cmp, or2_cmp, or2_cmp, or2_cmp, or2_cmp]
    rfl
  rw [HC]
  clear HC
  have Hy := Lib.hid (fun v => ccmp_any y1 y2 v)
  have Hm := Lib.hid (fun v => ccmp_any m1 m2 v)
  have Hd := Lib.hid (fun v => ccmp_any d1 d2 v)
  have Hh := Lib.hid (fun v => ccmp_any h1 h2 v)
  have Hi := Lib.hid (fun v => ccmp_any i1 i2 v)
  have Hs := Lib.hid (fun v => ccmp_any s1 s2 v)
  generalize cmpI2 y1 y2 0 = cy at *
  generalize cmpI2 m1 m2 0 = cm at *
  generalize cmpI2 d1 d2 0 = cd at *
  generalize cmpI2 h1 h2 0 = ch at *
  generalize cmpI2 i1 i2 0 = ci at *
  generalize cmpI2 s1 s2 0 = cs at *
  go_enter Tryd.func22, Tryd.ntmps22
  go_wp2_with fail
  obtain ⟨A, hA⟩ : ∃ A, w.heap.size = A := ⟨_, rfl⟩
  obtain ⟨w2, hw2⟩ : ∃ w2, ((w.alloc (.cells #[.int .i64 y1, .int .i64 m1, .int .i64 d1, .int .i64 h1, .int .i64 i1, .int .i64 s1] 23)).alloc (.cells #[.int .i64 y2, .int .i64 m2, .int .i64 d2, .int .i64 h2, .int .i64 i2, .int .i64 s2] 23)) = w2 := ⟨_, rfl⟩
  have K2 : Hid (Blk w2 A 23 #[.int .i64 y1, .int .i64 m1, .int .i64 d1, .int .i64 h1, .int .i64 i1, .int .i64 s1]) := by
    rw [← hw2, ← hA]
    exact (Blk.new w 23 #[.int .i64 y1, .int .i64 m1, .int .i64 d1, .int .i64 h1, .int .i64 i1, .int .i64 s1]).alloc (.cells #[.int .i64 y2, .int .i64 m2, .int .i64 d2, .int .i64 h2, .int .i64 i2, .int .i64 s2] 23)
  have F2 : Hid (Blk w2 (A + 1) 23 #[.int .i64 y2, .int .i64 m2, .int .i64 d2, .int .i64 h2, .int .i64 i2, .int .i64 s2]) := by
    rw [← hw2, ← hA]
    have := Blk.new (w.alloc (.cells #[.int .i64 y1, .int .i64 m1, .int .i64 d1, .int .i64 h1, .int .i64 i1, .int .i64 s1] 23)) 23 #[.int .i64 y2, .int .i64 m2, .int .i64 d2, .int .i64 h2, .int .i64 i2, .int .i64 s2]
    rw [Hid]
    simpa using this
  have Q2 : Hid (Below w.heap.size w w2) := by
    rw [← hw2]
    exact bal (bal (Below.refl _ _) _) _
  rw [hw2]
  clear hw2
  obtain ⟨k0, k1, k2, k3, k4, k5⟩ := K2.out.cells6
  obtain ⟨f0, f1, f2, f3, f4, f5⟩ := F2.out.cells6
  rw [hA]
  go_still_tail 30, (by kernel_rfl)
  still_call (Hy.out _)
  repeat still_step
  still_call (Hm.out _)
  repeat still_step
  still_call (Hd.out _)
  repeat still_step
  still_call (Hh.out _)
  repeat still_step
  still_call (Hi.out _)
  repeat still_step
  still_call (Hs.out _)
  repeat still_step
  refine wpStill_nil ?_
  change wpList _ _ _ _ _ w2.drew
  have Q3 : Hid (Below w.heap.size w w2.drew) := below_drewN Q2.out 1
  clear Hy Hm Hd Hh Hi Hs k0 k1 k2 k3 k4 k5 f0 f1 f2 f3 f4 f5 K2 F2 Q2
  generalize w2.drew = w3 at *
  obtain ⟨G, hG⟩ : ∃ G, w3.heap.size = G := ⟨_, rfl⟩
  have K4 := Lib.hid (Blk.new w3 3 #[.int .i64 cy, .int .i64 cm, .int .i64 cd, .int .i64 ch, .int .i64 ci, .int .i64 cs])
  have Q4 := Lib.hid (bal Q3.out (.cells #[.int .i64 cy, .int .i64 cm, .int .i64 cd, .int .i64 ch, .int .i64 ci, .int .i64 cs] 3))
  rw [hG] at K4
  have HO := Lib.hid (or_any cy cm cd ch ci cs _ G K4.out)
  go_wp2_with fail
  generalize w3.alloc (.cells #[.int .i64 cy, .int .i64 cm, .int .i64 cd, .int .i64 ch, .int .i64 ci, .int .i64 cs] 3) = w4 at *
  with_reducible refine (HO.out).mono ?_
  rintro e w5 ⟨rfl, rfl⟩
  go_wp2_with fail
  go_ret
  exact ⟨rfl, Q4.out⟩
end Go.Proofs.YtneeddbonhiflaaDoor
