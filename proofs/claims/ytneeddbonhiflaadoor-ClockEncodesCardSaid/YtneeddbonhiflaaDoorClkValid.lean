/-
  Contract of the program's Valid.
-/
import Derived.Test.YtneeddbonhiflaaDoorClkDays
import Derived.Test.YtneeddbonhiflaaDoorClEnc
import Derived.BigQuiet
namespace Go.Proofs.YtneeddbonhiflaaDoor
open Go.RowKit

theorem Wd.drew {w : World} (h : Wd w) (n : Nat) : Wd (w.drewN n) := h.below (below_drewN (Below.refl _ _) n)
theorem okT_no {t : Tm} (h : ¬ ((1 ≤ t.d ∧ t.d ≤ dys t.y t.m) ∧ (0 ≤ t.h ∧ t.h ≤ 23) ∧ (0 ≤ t.i ∧ t.i ≤ 59) ∧ (0 ≤ t.s ∧ t.s ≤ 59))) : okT t = false := by
  rcases e : okT t with _ | _
  · rfl
  · exact absurd (okT_iff.1 e) h

set_option maxRecDepth 100000 in
set_option maxHeartbeats 4000000 in
theorem pvalid_any (t : Tm) (w : World) (hW : Wd w) :
    Calls Tryd.prog 14 #[tmV t] w fun e w' => e = .returned (.bool (okT t)) ∧ Below w.heap.size w w' := by
  obtain ⟨y, m, d, h, i, s⟩ := t
  unfold tmV
  have Z1 := Lib.hid (Blk.new w 23 #[.int .i64 y, .int .i64 m, .int .i64 d, .int .i64 h, .int .i64 i, .int .i64 s])
  have Q1 := Lib.hid (bal (Below.refl w.heap.size w) (.cells #[.int .i64 y, .int .i64 m, .int .i64 d, .int .i64 h, .int .i64 i, .int .i64 s] 23))
  have HD := Lib.hid (fun n => pdays_any y m (World.drewN (w.alloc (.cells #[.int .i64 y, .int .i64 m, .int .i64 d, .int .i64 h, .int .i64 i, .int .i64 s] 23)) n) (hW.below (below_drewN Q1.out n)))
  obtain ⟨A, hA⟩ : ∃ A, w.heap.size = A := ⟨_, rfl⟩
  rw [hA] at Z1
  clear hW
  have HN := Lib.hid (fun hn => okT_no (t := ⟨y, m, d, h, i, s⟩) hn)
  have HY := Lib.hid (fun hn => (okT_iff (t := ⟨y, m, d, h, i, s⟩)).2 hn)
  dsimp only at HN HY
  generalize okT ⟨y, m, d, h, i, s⟩ = R at *
  generalize dys y m = D at *
  go_enter Tryd.func14, Tryd.ntmps14
  go_wp2_with fail
  generalize w.alloc (.cells #[.int .i64 y, .int .i64 m, .int .i64 d, .int .i64 h, .int .i64 i, .int .i64 s] 23) = w1 at *
  obtain ⟨c0, c1, c2, c3, c4, c5⟩ := Z1.out.cells6
  rcases g0 : decide (1 ≤ d) with _ | _
  · obtain rfl : R = false := HN.out (by have := of_decide_eq_false g0; omega)
    clear HN HY Z1
    go_quiet ((go_at_call 26; first | with_reducible exact quiet_left_any (HD.out _) | with_reducible exact quiet_add_any (HD.out _)))
    go_wp2_with fail
    go_ret
    exact ⟨rfl, below_drewN Q1.out _⟩
  rcases g1 : decide (d ≤ D) with _ | _
  · obtain rfl : R = false := HN.out (by have := of_decide_eq_false g1; omega)
    clear HN HY Z1
    go_quiet ((go_at_call 26; first | with_reducible exact quiet_left_any (HD.out _) | with_reducible exact quiet_add_any (HD.out _)))
    go_wp2_with fail
    go_ret
    exact ⟨rfl, below_drewN Q1.out _⟩
  rcases g2 : decide (0 ≤ h) with _ | _
  · obtain rfl : R = false := HN.out (by have := of_decide_eq_false g2; omega)
    clear HN HY Z1
    go_quiet ((go_at_call 26; first | with_reducible exact quiet_left_any (HD.out _) | with_reducible exact quiet_add_any (HD.out _)))
    go_wp2_with fail
    go_ret
    exact ⟨rfl, below_drewN Q1.out _⟩
  rcases g3 : decide (h < 24) with _ | _
  · obtain rfl : R = false := HN.out (by have := of_decide_eq_false g3; omega)
    clear HN HY Z1
    go_quiet ((go_at_call 26; first | with_reducible exact quiet_left_any (HD.out _) | with_reducible exact quiet_add_any (HD.out _)))
    go_wp2_with fail
    go_ret
    exact ⟨rfl, below_drewN Q1.out _⟩
  rcases g4 : decide (0 ≤ i) with _ | _
  · obtain rfl : R = false := HN.out (by have := of_decide_eq_false g4; omega)
    clear HN HY Z1
    go_quiet ((go_at_call 26; first | with_reducible exact quiet_left_any (HD.out _) | with_reducible exact quiet_add_any (HD.out _)))
    go_wp2_with fail
    go_ret
    exact ⟨rfl, below_drewN Q1.out _⟩
  rcases g5 : decide (i < 60) with _ | _
  · obtain rfl : R = false := HN.out (by have := of_decide_eq_false g5; omega)
    clear HN HY Z1
    go_quiet ((go_at_call 26; first | with_reducible exact quiet_left_any (HD.out _) | with_reducible exact quiet_add_any (HD.out _)))
    go_wp2_with fail
    go_ret
    exact ⟨rfl, below_drewN Q1.out _⟩
  rcases g6 : decide (0 ≤ s) with _ | _
  · obtain rfl : R = false := HN.out (by have := of_decide_eq_false g6; omega)
    clear HN HY Z1
    go_quiet ((go_at_call 26; first | with_reducible exact quiet_left_any (HD.out _) | with_reducible exact quiet_add_any (HD.out _)))
    go_wp2_with fail
    go_ret
    exact ⟨rfl, below_drewN Q1.out _⟩
  rcases g7 : decide (s < 60) with _ | _
  · obtain rfl : R = false := HN.out (by have := of_decide_eq_false g7; omega)
    clear HN HY Z1
    go_quiet ((go_at_call 26; first | with_reducible exact quiet_left_any (HD.out _) | with_reducible exact quiet_add_any (HD.out _)))
    go_wp2_with fail
    go_ret
    exact ⟨rfl, below_drewN Q1.out _⟩
  obtain rfl : R = true := HY.out (by have h0 := of_decide_eq_true g0; have h1 := of_decide_eq_true g1; have h2 := of_decide_eq_true g2; have h3 := of_decide_eq_true g3; have h4 := of_decide_eq_true g4; have h5 := of_decide_eq_true g5; have h6 := of_decide_eq_true g6; have h7 := of_decide_eq_true g7; omega)
  clear HN HY Z1
  go_quiet ((go_at_call 26; first | with_reducible exact quiet_left_any (HD.out _) | with_reducible exact quiet_add_any (HD.out _)))
  go_wp2_with fail
  go_ret
  exact ⟨rfl, below_drewN Q1.out _⟩
end Go.Proofs.YtneeddbonhiflaaDoor
