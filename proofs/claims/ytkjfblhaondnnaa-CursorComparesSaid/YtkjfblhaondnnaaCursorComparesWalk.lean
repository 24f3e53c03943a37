/-
  The walk of the law CursorCompares.
-/
import Derived.Test.YtkjfblhaondnnaaAwake
namespace Go.Proofs.Ytkjfblhaondnnaa.cursorCompares
open Go.RowKit

set_option maxHeartbeats 1000000 in
theorem walk {w : World} {a0 a1 a2 : Option Addr} {n0 c0 n1 c1 n2 c2 : Nat} {l0 l1 l2 : List UInt8} (b0 : Bs w a0 n0 c0 l0) (b1 : Bs w a1 n1 c1 l1) (b2 : Bs w a2 n2 c2 l2) :
    Calls Try.prog 7 #[.slice a0 n0 c0, .slice a1 n1 c1, .slice a2 n2 c2] w fun e w' => e = .returned (.bool true) ∧ Below w.heap.size w w' := by
  have HA := Lib.hid (awake_any)
  have HB0 := Lib.hid b0
  have HB1 := Lib.hid b1
  have HB2 := Lib.hid b2
  clear b0 b1 b2
  by_cases hs : n0 ≤ 2000 ∧ n1 ≤ 2000 ∧ n2 ≤ 2000
  · obtain ⟨h0, h1, h2⟩ := hs
    go_enter Try.func7, Try.ntmps7
    go_wp2_with (first | (go_at_call 8; go_must (refine (HA.out _).mono ?_); rintro e w1 ⟨rfl, q1⟩) | fail)
    have q := Lib.hid q1
    have B0 := Lib.hid (HB0.out.below q1)
    have B1 := Lib.hid (HB1.out.below q1)
    have B2 := Lib.hid (HB2.out.below q1)
    clear q1 HB0 HB1 HB2
    refine (compare_any B0.out B1.out).mono ?_
    rintro e w2 ⟨rfl, q1⟩
    have q' := Lib.hid (bthen q.out q1)
    have C0 := Lib.hid (B0.out.below q1)
    have C1 := Lib.hid (B1.out.below q1)
    have C2 := Lib.hid (B2.out.below q1)
    clear q1 B0 B1 B2 q
    go_wp2_with fail
    refine (compare_any C1.out C2.out).mono ?_
    rintro e w3 ⟨rfl, q1⟩
    have q := Lib.hid (bthen q'.out q1)
    have B0 := Lib.hid (C0.out.below q1)
    have B1 := Lib.hid (C1.out.below q1)
    have B2 := Lib.hid (C2.out.below q1)
    clear q1 C0 C1 C2 q'
    go_wp2_with fail
    refine (compare_any B0.out B2.out).mono ?_
    rintro e w4 ⟨rfl, q1⟩
    have q' := Lib.hid (bthen q.out q1)
    have C0 := Lib.hid (B0.out.below q1)
    have C1 := Lib.hid (B1.out.below q1)
    clear q1 B0 B1 B2 q
    go_wp2_with fail
    refine (ref_compare_any C0.out C1.out).mono ?_
    rintro e w5 ⟨rfl, k, rfl⟩
    have hx := lex_bd l0 l1
    have hy := Lib.hid (lex_trans l0 l1 l2)
    have ha := Lib.hid (lex_anti l0 l1)
    have hb : Hid (eqB l0 l1 = (lex l0 l1 == 0)) := by
      show _ = _
      rw [Bool.eq_iff_iff, eqB_iff, beq_iff_eq, lex_zero]
    obtain ⟨x, ex⟩ : ∃ x, lex l0 l1 = x := ⟨_, rfl⟩
    obtain ⟨y, ey⟩ : ∃ y, lex l1 l2 = y := ⟨_, rfl⟩
    obtain ⟨z, ez⟩ : ∃ z, lex l0 l2 = z := ⟨_, rfl⟩
    rw [ex] at hx hy ha hb
    rw [ey, ez] at hy
    rw [ex, ey, ez]
    clear ex ey ez
    go_wp2_with fail
    refine (compare_any (C1.out.drewN k) (C0.out.drewN k)).mono ?_
    rintro e w5 ⟨rfl, q1⟩
    rw [ha.out]
    have q := Lib.hid (bthen (below_drewN q'.out k) q1)
    have B0 := Lib.hid ((C0.out.drewN k).below q1)
    have B1 := Lib.hid ((C1.out.drewN k).below q1)
    clear q1 C0 C1 q' ha
    go_wp2_with fail
    refine (bytes_any B0.out B1.out).mono ?_
    rintro e w6 ⟨rfl, rfl⟩
    rw [hb.out]
    clear B0 B1 hb
    by_cases gx : x ≤ 0
    · by_cases gy : y ≤ 0
      · have gz := hy.out gx gy
        go_wp2_with fail
        go_ret
        exact ⟨rfl, q.out⟩
      · go_wp2_with fail
        go_ret
        exact ⟨rfl, q.out⟩
    · go_wp2_with fail
      go_ret
      exact ⟨rfl, q.out⟩
  · go_enter Try.func7, Try.ntmps7
    go_wp2_with (first | (go_at_call 8; go_must (refine (HA.out _).mono ?_); rintro e w1 ⟨rfl, q1⟩) | fail)
    all_goals
      go_ret
      exact ⟨rfl, bthen (by assumption) (by assumption)⟩
end Go.Proofs.Ytkjfblhaondnnaa.cursorCompares
