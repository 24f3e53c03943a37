/-
  Contract of the program's beginning: the first second of a day.
-/
import Derived.Test.YtneeddbonhiflaaDoorClkSrch
import Derived.Test.YtneeddbonhiflaaDoorClFrom
import Derived.BigRegion
import Derived.Deep.Cut
import Derived.Deep.CutRange
import Derived.StillTailTactics
import Derived.BigQuiet
namespace Go.Proofs.YtneeddbonhiflaaDoor
open Go.RowKit

/-- how many months are left, by the cell that holds the month -/
def mLeft (w : World) (T : Nat) : Nat := match w.cell? ⟨T, 1, none⟩ with | some v => (12 - intOf v).toNat | none => 0
theorem mLeft_blk {w : World} {T : Nat} {t : TypeId} {a c d e f : Value} {m : Int} (h : Blk w T t #[a, .int .i64 m, c, d, e, f]) : mLeft w T = (12 - m).toNat := by
  have := h.cells6.2.1
  unfold mLeft
  rw [this]
  rfl
/-- the next month -/
theorem month_step {y m d D : Int} (hy : 0 ≤ y ∧ y ≤ 9999) (hm : 1 ≤ m ∧ m ≤ 12) (hd : dys y m < d) (hD : dno y m d + 719528 = D) (hl : D < dB (y + 1)) :
    m + 1 ≤ 12 ∧ 1 ≤ d - dys y m ∧ dno y (m + 1) (d - dys y m) + 719528 = D := by
  have e := dno_day y m d
  have hb := dB_dno (y + 1)
  have hm12 : m ≠ 12 := by
    rintro rfl
    have e2 := dno_year y
    have e3 : dys y 12 = 31 := dys_31 (by omega) (by omega)
    omega
  have e4 := dno_month hy (m := m) (by omega)
  have e5 := dno_day y (m + 1) (d - dys y m)
  omega

set_option maxRecDepth 100000 in
set_option maxHeartbeats 16000000 in
theorem beginning_any (D : Int) (hD : 0 ≤ D) (hD2 : D < 3652425) (w : World) (hW : Wd w) :
    Calls Tryd.prog 38 #[.int .i64 D] w fun e w' => (∃ Y m d, e = .returned (.agg #[.int .i64 Y, .int .i64 m, .int .i64 d, .int .i64 0, .int .i64 0, .int .i64 0]) ∧ (1 ≤ d ∧ d ≤ dys Y m) ∧ dno Y m d + 719528 = D) ∧ Below w.heap.size w w' := by
  obtain ⟨w2, hw2⟩ : ∃ w2, (w.alloc (.cells #[.int .i64 D] 3)).alloc (.cells #[.int .i64 0, .int .i64 0, .int .i64 0, .int .i64 0, .int .i64 0, .int .i64 0] 23) = w2 := ⟨_, rfl⟩
  have HP := Lib.hid (fun y mm v (hq : Below w.heap.size w v) => pdays_any y mm v (hW.below hq))
  obtain ⟨A, hA⟩ : ∃ A, w.heap.size = A := ⟨_, rfl⟩
  have D2 : Hid (Blk w2 A 3 #[.int .i64 D]) := by
    rw [← hw2, ← hA]
    exact (Blk.new w 3 #[.int .i64 D]).alloc (.cells #[.int .i64 0, .int .i64 0, .int .i64 0, .int .i64 0, .int .i64 0, .int .i64 0] 23)
  have Z2 : Hid (Blk w2 (A + 1) 23 #[.int .i64 0, .int .i64 0, .int .i64 0, .int .i64 0, .int .i64 0, .int .i64 0]) := by
    rw [← hw2, ← hA]
    have := Blk.new (w.alloc (.cells #[.int .i64 D] 3)) 23 #[.int .i64 0, .int .i64 0, .int .i64 0, .int .i64 0, .int .i64 0, .int .i64 0]
    rw [Hid]
    simpa using this
  have Q2 : Hid (Below A w w2) := by
    rw [← hw2, ← hA]
    exact bal (bal (Below.refl _ _) _) _
  have S2 : Hid (w2.heap.size = A + 1 + 1) := by
    rw [← hw2, ← hA, Hid]
    simp
  obtain ⟨H, hH⟩ : ∃ H, A + 1 = H := ⟨_, rfl⟩
  obtain ⟨T, hT⟩ : ∃ T, H + 1 = T := ⟨_, rfl⟩
  rw [hH] at Z2 S2
  rw [hT] at S2
  have HS := Lib.hid (search_any D hD hD2 w2 A (by simpa using D2.out.cell 0))
  rw [hA] at HP ⊢
  clear hW
  go_enter Tryd.func38, Tryd.ntmps38
  go_wp2_with fail
  with_reducible refine (HS.out).mono ?_
  rintro e w3 ⟨⟨Y, rfl, ⟨g1, g2⟩, g3, g4⟩, k, rfl⟩
  have D3 := Lib.hid (D2.out.drewN k)
  have Z3 := Lib.hid (Z2.out.drewN k)
  have Q3 := Lib.hid (below_drewN Q2.out k)
  have S3 : Hid ((w2.drewN k).heap.size = T) := S2.out
  generalize w2.drewN k = w3 at *
  clear hw2 HS D2 Z2 Q2 S2
  have G4 := Lib.hid g4
  have hHT : H ≠ T := by omega
  have hAH : A ≤ H := by omega
  have hAT : A ≤ T := by omega
  have HB := Lib.hid (fun v => dbefore_any Y g1 (by omega) v)
  have hbd := dno_bd ⟨g1, g2⟩ (m := 1) (d := 1) (by omega) (by omega)
  have hed := dB_dno Y
  have t1 : IntKind.i64.wrap (D - dB Y) = D - dB Y := wr_num (by omega)
  have t2 : IntKind.i64.wrap (D - dB Y + 1) = D - dB Y + 1 := wr_num (by omega)
  have J0 : Hid (dno Y 1 (D - dB Y + 1) + 719528 = D) := by
    rw [Hid, dno_day]
    omega
  have J1 : Hid (1 ≤ D - dB Y + 1) := by rw [Hid]; omega
  have J2 : Hid (D - dB Y + 1 ≤ 4000000) := by rw [Hid]; omega
  have aT : A < T := by omega
  have nAT : A ≠ T := by omega
  have hS := S3.out
  clear hbd hed g3 g4 hH hT
  generalize dB Y = B at *
  obtain ⟨d0, hd0⟩ : ∃ d0, D - B + 1 = d0 := ⟨_, rfl⟩
  rw [hd0] at t2 J0 J1 J2
  have a0 : w3.cell? ⟨A, 0, none⟩ = some (.int .i64 D) := by simpa using D3.out.cell 0
  obtain ⟨w4, hw4⟩ : ∃ w4, (w3.alloc (.cells #[.int .i64 Y, .int .i64 1, .int .i64 d0, .int .i64 0, .int .i64 0, .int .i64 0] 23)).drew = w4 := ⟨_, rfl⟩
  have K4 : Hid (Blk w4 T 23 #[.int .i64 Y, .int .i64 1, .int .i64 d0, .int .i64 0, .int .i64 0, .int .i64 0]) := by
    rw [← hw4, ← hS]
    exact (Blk.new w3 23 #[.int .i64 Y, .int .i64 1, .int .i64 d0, .int .i64 0, .int .i64 0, .int .i64 0]).drewN 1
  have Z4 : Hid (Blk w4 H 23 #[.int .i64 0, .int .i64 0, .int .i64 0, .int .i64 0, .int .i64 0, .int .i64 0]) := by
    rw [← hw4]
    exact (Z3.out.alloc _).drewN 1
  have Q4 : Hid (Below A w w4) := by
    rw [← hw4]
    exact below_drewN (Q3.out.alloc (by omega) _) 1
  have HW4 := Lib.hid hw4
  clear hw4
  go_upto_region 2 with fail
  go_cut [4] from 7 (fun t wx => t = .pointer (some ⟨T, 0, none⟩) ∧ wx = w4)
  case first =>
    go_region_with ((go_at_call 35; (with_reducible refine (HB.out _).mono ?_); rintro e w5 ⟨rfl, rfl⟩))
    all_goals
      go_wp2_with fail
      go_meet
      exact ⟨rfl, HW4.out⟩
  case rest =>
    obtain ⟨rfl, rfl⟩ := hcut
    clear HW4 hS a0 t1 t2 HB D3 Z3 Q3 S3
    go_wp2_with fail
    go_loopw [14] (fun _ wr => ∃ m d : Int, 1 ≤ m ∧ m ≤ 12 ∧ 1 ≤ d ∧ d ≤ 4000000 ∧ dno Y m d + 719528 = D ∧ Blk wr T 23 #[.int .i64 Y, .int .i64 m, .int .i64 d, .int .i64 0, .int .i64 0, .int .i64 0] ∧ Blk wr H 23 #[.int .i64 0, .int .i64 0, .int .i64 0, .int .i64 0, .int .i64 0, .int .i64 0] ∧ Below A w wr) (fun _ wr => mLeft wr T)
    case atStart => exact ⟨1, d0, by omega, by omega, J1.out, J2.out, J0.out, K4.out, Z4.out, Q4.out⟩
    case round =>
      obtain ⟨m, d, c1, c2, c3, c4, hdn, hk, hz, hq⟩ := hrel
      have K5 := Lib.hid hk
      have Z5 := Lib.hid hz
      have Q5 := Lib.hid hq
      have HDN := Lib.hid hdn
      have M5 := Lib.hid (mLeft_blk hk)
      clear hk hz hq hdn K4 Z4 Q4 J0 J1 J2
      have hdd := dys_le Y m
      have HPm := Lib.hid (fun n => HP.out Y m (wr.drewN n) (below_drewN Q5.out n))
      have HPd := Lib.hid (fun n => HP.out Y m (wr.drew.drewN n) (below_drewN (below_drewN Q5.out 1) n))
      have MS := Lib.hid (fun hd => month_step ⟨g1, g2⟩ ⟨c1, c2⟩ hd HDN.out G4.out (m := m) (d := d))
      obtain ⟨k0, k1, k2, k3, k4, k5⟩ := K5.out.cells6
      obtain ⟨N, hN⟩ : ∃ N, dys Y m = N := ⟨_, rfl⟩
      rw [hN] at hdd HPm HPd MS
      have HN := Lib.hid hN
      clear hN
      rcases hlt : decide (N < d) with _ | _
      · have hle := of_decide_eq_false hlt
        go_wp2_with fail
        go_quiet ((go_at_call 26; first | with_reducible exact quiet_left_any (HPm.out _) | with_reducible exact quiet_add_any (HPm.out _)))
        have K6 := Lib.hid (K5.out.drewN nq)
        have Z6 := Lib.hid (Z5.out.drewN nq)
        have Q6 := Lib.hid (below_drewN Q5.out nq)
        generalize wr.drewN nq = w6 at *
        clear k0 k1 k2 k3 k4 k5 K5 Z5 Q5 MS HPm HPd
        obtain ⟨k0, k1, k2, k3, k4, k5⟩ := K6.out.cells6
        obtain ⟨z0, z1, z2, z3, z4, z5⟩ := Z6.out.cells6
        have zl := Z6.out.lt
        have zf := Z6.out.frozen
        have ZF := Lib.hid (Z6.out.six (.int .i64 Y) (.int .i64 m) (.int .i64 d) (.int .i64 0) (.int .i64 0) (.int .i64 0))
        have QF := Lib.hid (below_six Q6.out (hAH) (.int .i64 Y) (.int .i64 m) (.int .i64 d) (.int .i64 0) (.int .i64 0) (.int .i64 0))
        go_wp2_with fail
        obtain ⟨y0, y1, y2, y3, y4, y5⟩ := ZF.out.cells6
        have q := QF.out
        generalize ((((((w6.setCell ⟨H, 0, none⟩ (.int .i64 Y)).setCell ⟨H, 1, none⟩ (.int .i64 m)).setCell ⟨H, 2, none⟩ (.int .i64 d)).setCell ⟨H, 3, none⟩ (.int .i64 0)).setCell ⟨H, 4, none⟩ (.int .i64 0)).setCell ⟨H, 5, none⟩ (.int .i64 0)) = w9 at *
        exact bodyPost_ret (v := .agg #[.int .i64 Y, .int .i64 m, .int .i64 d, .int .i64 0, .int .i64 0, .int .i64 0]) (by simp [results, Tryd.results38, go_sem, y0, y1, y2, y3, y4, y5]) rfl ⟨⟨Y, m, d, rfl, ⟨c3, by rw [HN.out]; omega⟩, HDN.out⟩, q⟩
      · have hgt := of_decide_eq_true hlt
        obtain ⟨m1, m2, m3⟩ := MS.out hgt
        have M3 := Lib.hid m3
        have v1 : IntKind.i64.wrap (d - N) = d - N := wr_num (by omega)
        have v2 : IntKind.i64.wrap (m + 1) = m + 1 := wr_num (by omega)
        clear m3 MS
        go_wp2_with fail
        go_quiet ((go_at_call 26; first | with_reducible exact quiet_left_any (HPm.out _) | with_reducible exact quiet_add_any (HPm.out _)))
        have K6 := Lib.hid (K5.out.drewN nq)
        have Z6 := Lib.hid (Z5.out.drewN nq)
        have Q6 := Lib.hid (below_drewN Q5.out nq)
        have HP6 := Lib.hid (fun (_ : Unit) => HP.out Y m ((wr.drewN nq).drew) (below_drewN (below_drewN Q5.out nq) 1))
        rw [HN.out] at HP6
        generalize wr.drewN nq = w6 at *
        clear k0 k1 k2 k3 k4 k5 K5 Z5 Q5 HPm HPd
        obtain ⟨k0, k1, k2, k3, k4, k5⟩ := K6.out.cells6
        go_wp2_with fail
        go_still_tail 9, (by kernel_rfl)
        still_call (HP6.out ())
        repeat still_step
        refine wpStill_nil ?_
        change wpList _ _ _ _ _ w6.drew
        have K7 : Hid (Blk w6.drew T 23 #[.int .i64 Y, .int .i64 m, .int .i64 d, .int .i64 0, .int .i64 0, .int .i64 0]) := K6.out.drewN 1
        have Z7 : Hid (Blk w6.drew H 23 #[.int .i64 0, .int .i64 0, .int .i64 0, .int .i64 0, .int .i64 0, .int .i64 0]) := Z6.out.drewN 1
        have Q7 : Hid (Below A w w6.drew) := below_drewN Q6.out 1
        generalize w6.drew = w7 at *
        clear k0 k1 k2 k3 k4 k5 K6 Z6 Q6 HP6
        obtain ⟨k0, k1, k2, k3, k4, k5⟩ := K7.out.cells6
        have kl := K7.out.lt
        have kf := K7.out.frozen
        have K8 : Hid (Blk ((w7.setCell ⟨T, 2, none⟩ (.int .i64 (d - N))).setCell ⟨T, 1, none⟩ (.int .i64 (m + 1))) T 23 #[.int .i64 Y, .int .i64 (m + 1), .int .i64 (d - N), .int .i64 0, .int .i64 0, .int .i64 0]) := by
          have := (K7.out.set_ 2 (.int .i64 (d - N))).set_ 1 (.int .i64 (m + 1))
          rw [Hid]
          simpa using this
        have Z8 := Lib.hid ((Z7.out.far (p := ⟨T, 2, none⟩) hHT (.int .i64 (d - N))).far (p := ⟨T, 1, none⟩) hHT (.int .i64 (m + 1)))
        have Q8 := Lib.hid ((Q7.out.setCell (p := ⟨T, 2, none⟩) hAT (.int .i64 (d - N))).setCell (p := ⟨T, 1, none⟩) hAT (.int .i64 (m + 1)))
        have M8 := Lib.hid (mLeft_blk K8.out)
        go_wp2_with fail
        exact ⟨⟨m + 1, d - N, by omega, m1, m2, by omega, M3.out, K8.out, Z8.out, Q8.out⟩, by rw [M8.out, M5.out]; omega⟩
end Go.Proofs.YtneeddbonhiflaaDoor
