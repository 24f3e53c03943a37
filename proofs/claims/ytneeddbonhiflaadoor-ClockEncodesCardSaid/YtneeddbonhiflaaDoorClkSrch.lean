/-
  Contracts of sort.Search over the closure that asks for a year.
-/
import Derived.Test.YtneeddbonhiflaaDoorClkSec
import Derived.LoopTactic
import Derived.BigQuiet
namespace Go.Proofs.YtneeddbonhiflaaDoor
open Go.RowKit

set_option maxRecDepth 100000 in
set_option maxHeartbeats 2000000 in
theorem later_any (y D : Int) (h0 : 0 ≤ y) (h1 : y ≤ 9999) (w : World) (g : Nat) (hg : w.cell? ⟨g, 0, none⟩ = some (.int .i64 D)) :
    Calls Tryd.prog 43 #[.int .i64 y, .pointer (some ⟨g, 0, none⟩)] w fun e w' => e = .returned (.bool (decide (D < dB (y + 1)))) ∧ ∃ k, w' = w.drewN k := by
  have HB := Lib.hid (fun v => dbefore_any (y + 1) (by omega) (by omega) v)
  have v1 : IntKind.i64.wrap (y + 1) = y + 1 := wr_num (by omega)
  generalize dB (y + 1) = B at *
  go_enter Tryd.func43, Tryd.ntmps43
  go_wp2_with fail
  go_quiet ((go_at_call 35; first | with_reducible exact quiet_left_any (HB.out _) | with_reducible exact quiet_add_any (HB.out _)))
  go_wp2_with fail
  go_ret
  exact ⟨by first | rfl | simp, nq, rfl⟩

theorem dB_zero : dB 0 = 0 := by decide
theorem dB_last : dB (9999 + 1) = 3652425 := by decide

set_option maxRecDepth 100000 in
set_option maxHeartbeats 4000000 in
theorem search_any (D : Int) (hD : 0 ≤ D) (hD2 : D < 3652425) (w : World) (g : Nat) (hg : w.cell? ⟨g, 0, none⟩ = some (.int .i64 D)) :
    Calls Tryd.prog 42 #[.int .i64 9999, .func (.func 43) #[] #[.pointer (some ⟨g, 0, none⟩)]] w fun e w' => (∃ Y, e = .returned (.int .i64 Y) ∧ (0 ≤ Y ∧ Y ≤ 9999) ∧ dB Y ≤ D ∧ D < dB (Y + 1)) ∧ ∃ k, w' = w.drewN k := by
  have HL : Hid (∀ y, 0 ≤ y → y ≤ 9999 → ∀ k, Calls Tryd.prog 43 #[.int .i64 y, .pointer (some ⟨g, 0, none⟩)] (w.drewN k) fun e w' => e = .returned (.bool (decide (D < dB (y + 1)))) ∧ ∃ k', w' = w.drewN k') := Lib.hid fun y h0 h1 k => (later_any y D h0 h1 (w.drewN k) g hg).mono fun e w' ⟨he, k', hk⟩ => ⟨he, k + k', by rw [hk, World.drewN_drewN]⟩
  have I0 : Hid (dB 0 ≤ D) := by rw [Hid, dB_zero]; exact hD
  have I1 : Hid (D < dB (9999 + 1)) := by rw [Hid, dB_last]; exact hD2
  clear hg hD hD2
  go_enter Tryd.func42, Tryd.ntmps42
  go_wp2_with fail
  go_loopw [5, 6] (fun x y wr => ∃ i j : Int, 0 ≤ i ∧ i ≤ j ∧ j ≤ 9999 ∧ x = .int .i64 i ∧ y = .int .i64 j ∧ dB i ≤ D ∧ D < dB (j + 1) ∧ ∃ k, wr = w.drewN k) (fun x y _ => (intOf y - intOf x).toNat)
  case atStart => exact ⟨0, 9999, by omega, by omega, by omega, rfl, rfl, I0.out, I1.out, 0, rfl⟩
  case round =>
    obtain ⟨i, j, b1, b2, b3, rfl, rfl, i0, i1, k, rfl⟩ := hrel
    have J0 := Lib.hid i0
    have J1 := Lib.hid i1
    clear i0 i1 I0 I1
    by_cases hlt : i < j
    · obtain ⟨h, hh⟩ : ∃ h, (i + j) / 2 = h := ⟨_, rfl⟩
      have t1 : IntKind.i64.wrap (i + j) = i + j := wr_num (by omega)
      have t2 : IntKind.u64.wrap (i + j) = i + j := by rw [IntKind.wrap_u64]; omega
      have t3 : IntKind.u64.wrap h = h := by rw [IntKind.wrap_u64]; omega
      have t4 : IntKind.i64.wrap h = h := wr_num (by omega)
      have t5 : IntKind.i64.wrap (h + 1) = h + 1 := wr_num (by omega)
      have HC := Lib.hid (HL.out h (by omega) (by omega) k)
      rcases hd : decide (D < dB (h + 1)) with _ | _
      · rw [hd] at HC
        have h2 := of_decide_eq_false hd
        have J2 : Hid (dB (h + 1) ≤ D) := by rw [Hid]; omega
        clear hd h2
        go_wp2_with fail
        with_reducible refine (HC.out).mono ?_
        rintro e w5 ⟨rfl, k5, rfl⟩
        go_wp2_with fail
        exact ⟨⟨h + 1, j, by omega, by omega, b3, rfl, rfl, J2.out, J1.out, k5, rfl⟩, by simp [intOf]; omega⟩
      · rw [hd] at HC
        have J2 := Lib.hid (of_decide_eq_true hd)
        clear hd
        go_wp2_with fail
        with_reducible refine (HC.out).mono ?_
        rintro e w5 ⟨rfl, k5, rfl⟩
        go_wp2_with fail
        exact ⟨⟨i, h, by omega, by omega, by omega, rfl, rfl, J0.out, J2.out, k5, rfl⟩, by simp [intOf]; omega⟩
    · obtain rfl : i = j := by omega
      go_wp2_with fail
      go_ret
      exact ⟨⟨i, rfl, ⟨b1, b3⟩, J0.out, J1.out⟩, k, rfl⟩
end Go.Proofs.YtneeddbonhiflaaDoor
