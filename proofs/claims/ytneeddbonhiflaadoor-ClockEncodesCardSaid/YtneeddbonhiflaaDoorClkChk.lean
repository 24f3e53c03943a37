/-
  Contracts of the program's checked and fields.
-/
import Derived.Test.YtneeddbonhiflaaDoorClkValid
import Derived.Test.YtneeddbonhiflaaDoorClkDecM
import Derived.BigRegion
namespace Go.Proofs.YtneeddbonhiflaaDoor
open Go.RowKit

theorem ckd_no {b : Bool} {T : Tm} (h : ¬ (b = true ∧ okT T = true)) : ckd b T = (tm0, 6) := if_neg h
theorem ckd_yes {T : Tm} (h : okT T = true) : ckd true T = (T, 0) := if_pos ⟨rfl, h⟩

set_option maxRecDepth 100000 in
set_option maxHeartbeats 8000000 in
theorem checked_any (T : Tm) (b : Bool) (w : World) (hW : Wd w) :
    Calls Tryd.prog 32 #[tmV T, .bool b] w fun e w' => e = .returned (.tuple #[tmV (ckd b T).1, .int .i64 (ckd b T).2]) ∧ Below w.heap.size w w' := by
  obtain ⟨y, m, d, h, i, s⟩ := T
  have HV := Lib.hid (fun v (hq : Below w.heap.size w v) => pvalid_any ⟨y, m, d, h, i, s⟩ v (hW.below hq))
  clear hW
  obtain ⟨w2, hw2⟩ : ∃ w2, (w.alloc (.cells #[.int .i64 y, .int .i64 m, .int .i64 d, .int .i64 h, .int .i64 i, .int .i64 s] 23)).alloc (.cells #[.int .i64 0, .int .i64 0, .int .i64 0, .int .i64 0, .int .i64 0, .int .i64 0] 23) = w2 := ⟨_, rfl⟩
  obtain ⟨A, hA⟩ : ∃ A, w.heap.size = A := ⟨_, rfl⟩
  have Z2 : Hid (Blk w2 A 23 #[.int .i64 y, .int .i64 m, .int .i64 d, .int .i64 h, .int .i64 i, .int .i64 s]) := by
    rw [← hw2, ← hA]
    exact (Blk.new w 23 #[.int .i64 y, .int .i64 m, .int .i64 d, .int .i64 h, .int .i64 i, .int .i64 s]).alloc (.cells #[.int .i64 0, .int .i64 0, .int .i64 0, .int .i64 0, .int .i64 0, .int .i64 0] 23)
  have R2 : Hid (Blk w2 (A + 1) 23 #[.int .i64 0, .int .i64 0, .int .i64 0, .int .i64 0, .int .i64 0, .int .i64 0]) := by
    rw [← hw2, ← hA]
    have := Blk.new (w.alloc (.cells #[.int .i64 y, .int .i64 m, .int .i64 d, .int .i64 h, .int .i64 i, .int .i64 s] 23)) 23 #[.int .i64 0, .int .i64 0, .int .i64 0, .int .i64 0, .int .i64 0, .int .i64 0]
    rw [Hid]
    simpa using this
  have Q2 : Hid (Below A w w2) := by
    rw [← hw2, ← hA]
    exact bal (bal (Below.refl _ _) _) _
  obtain ⟨H, hH⟩ : ∃ H, A + 1 = H := ⟨_, rfl⟩
  rw [hH] at R2
  have HLE : Hid (A < H) := by rw [Hid]; omega
  rw [hA] at HV ⊢
  rcases b with _ | _
  · rw [ckd_no (by simp)]
    unfold tmV tm0
    clear HV
    obtain ⟨r0, r1, r2, r3, r4, r5⟩ := R2.out.cells6
    have rl := R2.out.lt
    have rf := R2.out.frozen
    have ZF := Lib.hid (R2.out.six (.int .i64 0) (.int .i64 0) (.int .i64 0) (.int .i64 0) (.int .i64 0) (.int .i64 0))
    have QF := Lib.hid (below_six Q2.out (Nat.le_of_lt HLE.out) (.int .i64 0) (.int .i64 0) (.int .i64 0) (.int .i64 0) (.int .i64 0) (.int .i64 0))
    go_enter Tryd.func32, Tryd.ntmps32
    go_wp2_with fail
    obtain ⟨y0, y1, y2, y3, y4, y5⟩ := ZF.out.cells6
    have q := QF.out
    generalize ((((((w2.setCell ⟨H, 0, none⟩ (.int .i64 0)).setCell ⟨H, 1, none⟩ (.int .i64 0)).setCell ⟨H, 2, none⟩ (.int .i64 0)).setCell ⟨H, 3, none⟩ (.int .i64 0)).setCell ⟨H, 4, none⟩ (.int .i64 0)).setCell ⟨H, 5, none⟩ (.int .i64 0)) = w9 at *
    exact bodyPost_ret (v := .tuple #[.agg #[.int .i64 0, .int .i64 0, .int .i64 0, .int .i64 0, .int .i64 0, .int .i64 0], .int .i64 6]) (by simp [results, Tryd.results32, go_sem, y0, y1, y2, y3, y4, y5]) rfl ⟨rfl, q⟩
  · unfold tmV at HV
    rcases hok : okT ⟨y, m, d, h, i, s⟩ with _ | _
    · rw [hok] at HV
      rw [ckd_no (by rw [hok]; simp)]
      clear hok
      unfold tmV tm0
      dsimp only at HV
      obtain ⟨z0, z1, z2, z3, z4, z5⟩ := Z2.out.cells6
      have L2 := Lib.hid Z2.out.lt
      have M2 := Lib.hid R2.out.lt
      go_enter Tryd.func32, Tryd.ntmps32
      go_wp2_with fail
      with_reducible refine (HV.out _ Q2.out).mono ?_
      rintro e w3 ⟨rfl, q⟩
      have Z3 := Lib.hid (Z2.out.below q L2.out)
      have R3 := Lib.hid (R2.out.below q M2.out)
      have Q3 : Hid (Below A w w3) := Q2.out.trans (q.mono (by rw [← hA]; exact Nat.le_trans (by omega) Q2.out.size))
      clear q z0 z1 z2 z3 z4 z5
      obtain ⟨r0, r1, r2, r3, r4, r5⟩ := R3.out.cells6
      have rl := R3.out.lt
      have rf := R3.out.frozen
      have ZF := Lib.hid (R3.out.six (.int .i64 0) (.int .i64 0) (.int .i64 0) (.int .i64 0) (.int .i64 0) (.int .i64 0))
      have QF := Lib.hid (below_six Q3.out (Nat.le_of_lt HLE.out) (.int .i64 0) (.int .i64 0) (.int .i64 0) (.int .i64 0) (.int .i64 0) (.int .i64 0))
      clear hA hH
      go_wp2_with fail
      obtain ⟨y0, y1, y2, y3, y4, y5⟩ := ZF.out.cells6
      have q := QF.out
      generalize ((((((w3.setCell ⟨H, 0, none⟩ (.int .i64 0)).setCell ⟨H, 1, none⟩ (.int .i64 0)).setCell ⟨H, 2, none⟩ (.int .i64 0)).setCell ⟨H, 3, none⟩ (.int .i64 0)).setCell ⟨H, 4, none⟩ (.int .i64 0)).setCell ⟨H, 5, none⟩ (.int .i64 0)) = w9 at *
      exact bodyPost_ret (v := .tuple #[.agg #[.int .i64 0, .int .i64 0, .int .i64 0, .int .i64 0, .int .i64 0, .int .i64 0], .int .i64 6]) (by simp [results, Tryd.results32, go_sem, y0, y1, y2, y3, y4, y5]) rfl ⟨rfl, q⟩
    · rw [hok] at HV
      rw [ckd_yes hok]
      clear hok
      unfold tmV
      dsimp only at HV
      obtain ⟨z0, z1, z2, z3, z4, z5⟩ := Z2.out.cells6
      have L2 := Lib.hid Z2.out.lt
      have M2 := Lib.hid R2.out.lt
      go_enter Tryd.func32, Tryd.ntmps32
      go_wp2_with fail
      with_reducible refine (HV.out _ Q2.out).mono ?_
      rintro e w3 ⟨rfl, q⟩
      have Z3 := Lib.hid (Z2.out.below q L2.out)
      have R3 := Lib.hid (R2.out.below q M2.out)
      have Q3 : Hid (Below A w w3) := Q2.out.trans (q.mono (by rw [← hA]; exact Nat.le_trans (by omega) Q2.out.size))
      clear q z0 z1 z2 z3 z4 z5
      obtain ⟨z0, z1, z2, z3, z4, z5⟩ := Z3.out.cells6
      obtain ⟨r0, r1, r2, r3, r4, r5⟩ := R3.out.cells6
      have rl := R3.out.lt
      have rf := R3.out.frozen
      have ZF := Lib.hid (R3.out.six (.int .i64 y) (.int .i64 m) (.int .i64 d) (.int .i64 h) (.int .i64 i) (.int .i64 s))
      have QF := Lib.hid (below_six Q3.out (Nat.le_of_lt HLE.out) (.int .i64 y) (.int .i64 m) (.int .i64 d) (.int .i64 h) (.int .i64 i) (.int .i64 s))
      clear hA hH
      go_wp2_with fail
      obtain ⟨y0, y1, y2, y3, y4, y5⟩ := ZF.out.cells6
      have q := QF.out
      generalize ((((((w3.setCell ⟨H, 0, none⟩ (.int .i64 y)).setCell ⟨H, 1, none⟩ (.int .i64 m)).setCell ⟨H, 2, none⟩ (.int .i64 d)).setCell ⟨H, 3, none⟩ (.int .i64 h)).setCell ⟨H, 4, none⟩ (.int .i64 i)).setCell ⟨H, 5, none⟩ (.int .i64 s)) = w9 at *
      exact bodyPost_ret (v := .tuple #[.agg #[.int .i64 y, .int .i64 m, .int .i64 d, .int .i64 h, .int .i64 i, .int .i64 s], .int .i64 0]) (by simp [results, Tryd.results32, go_sem, y0, y1, y2, y3, y4, y5]) rfl ⟨rfl, q⟩
end Go.Proofs.YtneeddbonhiflaaDoor
