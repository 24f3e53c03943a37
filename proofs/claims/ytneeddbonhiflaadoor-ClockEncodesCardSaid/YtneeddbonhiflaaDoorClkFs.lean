/-
  Contract of the program's FromSeconds.
-/
import Derived.Test.YtneeddbonhiflaaDoorClkFrom
namespace Go.Proofs.YtneeddbonhiflaaDoor
open Go.RowKit

set_option maxRecDepth 100000 in
set_option maxHeartbeats 8000000 in
theorem pfrom_any (n : Int) (hn : -9223372036854775808 ≤ n ∧ n ≤ 9223372036854775807) (w : World) (hW : Wd w) :
    Calls Tryd.prog 24 #[.int .i64 n] w fun e w' => (∃ T k, e = .returned (.tuple #[tmV T, .int .i64 k]) ∧ ((n < -62167219200 ∨ 253402300799 < n) → T = tm0 ∧ k = 9) ∧ (-62167219200 ≤ n ∧ n ≤ 253402300799 → okT T = true ∧ secT T = n ∧ k = 0)) ∧ Below w.heap.size w w' := by
  obtain ⟨w2, hw2⟩ : ∃ w2, w.alloc (.cells #[.int .i64 0, .int .i64 0, .int .i64 0, .int .i64 0, .int .i64 0, .int .i64 0] 23) = w2 := ⟨_, rfl⟩
  have HBG := Lib.hid (fun D h0 h1 v (hq : Below w.heap.size w v) => beginning_any D h0 h1 v (hW.below hq))
  obtain ⟨A, hA⟩ : ∃ A, w.heap.size = A := ⟨_, rfl⟩
  have Z2 : Hid (Blk w2 A 23 #[.int .i64 0, .int .i64 0, .int .i64 0, .int .i64 0, .int .i64 0, .int .i64 0]) := by
    rw [← hw2, ← hA]
    exact Blk.new w 23 #[.int .i64 0, .int .i64 0, .int .i64 0, .int .i64 0, .int .i64 0, .int .i64 0]
  have Q2 : Hid (Below A w w2) := by
    rw [← hw2, ← hA]
    exact bal (Below.refl _ _) _
  have L2 : Hid (A < w2.heap.size) := Z2.out.lt
  rw [hA] at HBG ⊢
  clear hW
  unfold tmV
  by_cases hlo : n < -62167219200
  · obtain ⟨z0, z1, z2, z3, z4, z5⟩ := Z2.out.cells6
    have zl := Z2.out.lt
    have zf := Z2.out.frozen
    have ZF := Lib.hid (Z2.out.six (.int .i64 0) (.int .i64 0) (.int .i64 0) (.int .i64 0) (.int .i64 0) (.int .i64 0))
    have QF := Lib.hid (below_six Q2.out (Nat.le_refl A) (.int .i64 0) (.int .i64 0) (.int .i64 0) (.int .i64 0) (.int .i64 0) (.int .i64 0))
    go_enter Tryd.func24, Tryd.ntmps24
    go_wp2_with fail
    obtain ⟨y0, y1, y2, y3, y4, y5⟩ := ZF.out.cells6
    have q := QF.out
    generalize ((((((w2.setCell ⟨A, 0, none⟩ (.int .i64 0)).setCell ⟨A, 1, none⟩ (.int .i64 0)).setCell ⟨A, 2, none⟩ (.int .i64 0)).setCell ⟨A, 3, none⟩ (.int .i64 0)).setCell ⟨A, 4, none⟩ (.int .i64 0)).setCell ⟨A, 5, none⟩ (.int .i64 0)) = w9 at *
    exact bodyPost_ret (v := .tuple #[.agg #[.int .i64 0, .int .i64 0, .int .i64 0, .int .i64 0, .int .i64 0, .int .i64 0], .int .i64 9]) (by simp [results, Tryd.results24, go_sem, y0, y1, y2, y3, y4, y5]) rfl ⟨⟨tm0, 9, rfl, by first | exact fun _ => ⟨rfl, rfl⟩ | exact ⟨rfl, rfl⟩, fun h => by omega⟩, q⟩
  by_cases hhi : 253402300799 < n
  · obtain ⟨z0, z1, z2, z3, z4, z5⟩ := Z2.out.cells6
    have zl := Z2.out.lt
    have zf := Z2.out.frozen
    have ZF := Lib.hid (Z2.out.six (.int .i64 0) (.int .i64 0) (.int .i64 0) (.int .i64 0) (.int .i64 0) (.int .i64 0))
    have QF := Lib.hid (below_six Q2.out (Nat.le_refl A) (.int .i64 0) (.int .i64 0) (.int .i64 0) (.int .i64 0) (.int .i64 0) (.int .i64 0))
    go_enter Tryd.func24, Tryd.ntmps24
    go_wp2_with fail
    obtain ⟨y0, y1, y2, y3, y4, y5⟩ := ZF.out.cells6
    have q := QF.out
    generalize ((((((w2.setCell ⟨A, 0, none⟩ (.int .i64 0)).setCell ⟨A, 1, none⟩ (.int .i64 0)).setCell ⟨A, 2, none⟩ (.int .i64 0)).setCell ⟨A, 3, none⟩ (.int .i64 0)).setCell ⟨A, 4, none⟩ (.int .i64 0)).setCell ⟨A, 5, none⟩ (.int .i64 0)) = w9 at *
    exact bodyPost_ret (v := .tuple #[.agg #[.int .i64 0, .int .i64 0, .int .i64 0, .int .i64 0, .int .i64 0, .int .i64 0], .int .i64 9]) (by simp [results, Tryd.results24, go_sem, y0, y1, y2, y3, y4, y5]) rfl ⟨⟨tm0, 9, rfl, by first | exact fun _ => ⟨rfl, rfl⟩ | exact ⟨rfl, rfl⟩, fun h => by omega⟩, q⟩
  obtain ⟨p, hp⟩ : ∃ p, n + 62167219200 = p := ⟨_, rfl⟩
  have v1 : IntKind.i64.wrap (n - -62167219200) = p := by rw [wr_num (by omega)]; omega
  have v2 : IntKind.i64.wrap (n + 62167219200) = p := by rw [wr_num (by omega)]; omega
  obtain ⟨D, hDD⟩ : ∃ D, p / 86400 = D := ⟨_, rfl⟩
  obtain ⟨r, hr⟩ : ∃ r, p % 86400 = r := ⟨_, rfl⟩
  have u1 : p.tdiv 86400 = D := by rw [Int.tdiv_eq_ediv_of_nonneg (by omega)]; exact hDD
  have u2 : p.tmod 86400 = r := by rw [Int.tmod_eq_emod_of_nonneg (by omega)]; exact hr
  have v3 : IntKind.i64.wrap D = D := wr_num (by omega)
  have v4 : IntKind.i64.wrap r = r := wr_num (by omega)
  have HB2 := Lib.hid (fun v hq => HBG.out D (by omega) (by omega) v hq)
  obtain ⟨h, hh⟩ : ∃ h, r / 3600 = h := ⟨_, rfl⟩
  obtain ⟨i, hi⟩ : ∃ i, r / 60 % 60 = i := ⟨_, rfl⟩
  obtain ⟨s, hs⟩ : ∃ s, r % 60 = s := ⟨_, rfl⟩
  have u3 : r.tdiv 3600 = h := by rw [Int.tdiv_eq_ediv_of_nonneg (by omega)]; exact hh
  have u4 : r.tdiv 60 = r / 60 := Int.tdiv_eq_ediv_of_nonneg (by omega)
  have u5 : (r / 60).tmod 60 = i := by rw [Int.tmod_eq_emod_of_nonneg (by omega)]; exact hi
  have u6 : r.tmod 60 = s := by rw [Int.tmod_eq_emod_of_nonneg (by omega)]; exact hs
  have v5 : IntKind.i64.wrap h = h := wr_num (by omega)
  have v6 : IntKind.i64.wrap (r / 60) = r / 60 := wr_num (by omega)
  have v7 : IntKind.i64.wrap i = i := wr_num (by omega)
  have v8 : IntKind.i64.wrap s = s := wr_num (by omega)
  have HAT : Hid (∀ Y m d, (1 ≤ d ∧ d ≤ dys Y m) → dno Y m d + 719528 = D → okT ⟨Y, m, d, h, i, s⟩ = true ∧ secT ⟨Y, m, d, h, i, s⟩ = n) := by
    rw [Hid]
    intro Y m d hd hdn
    have e := sec_at (y := Y) (m := m) (d := d) (n := n) hd (by omega) (by omega)
    have e1 : n - dno Y m d * 86400 = r := by omega
    have e2 : r % 3600 / 60 = i := by omega
    rw [e1, hh, hs, e2] at e
    exact e
  clear hp hDD hr hh hi hs
  go_enter Tryd.func24, Tryd.ntmps24
  go_wp2_with fail
  with_reducible refine (HB2.out _ Q2.out).mono ?_
  rintro e w3 ⟨⟨Y, m, d, rfl, hd, hdn⟩, q⟩
  have AT := Lib.hid (HAT.out Y m d hd hdn)
  have Z3 := Lib.hid (Z2.out.below q L2.out)
  have Q3 : Hid (Below A w w3) := Q2.out.trans (q.mono (Nat.le_of_lt L2.out))
  have Z4 := Lib.hid (Z3.out.alloc (.cells #[.int .i64 Y, .int .i64 m, .int .i64 d, .int .i64 0, .int .i64 0, .int .i64 0] 23))
  have Q4 := Lib.hid (Q3.out.alloc (Nat.le_of_lt Z3.out.lt) (.cells #[.int .i64 Y, .int .i64 m, .int .i64 d, .int .i64 0, .int .i64 0, .int .i64 0] 23))
  have T4 := Lib.hid (Blk.new w3 23 #[.int .i64 Y, .int .i64 m, .int .i64 d, .int .i64 0, .int .i64 0, .int .i64 0])
  have hAT := Z3.out.lt
  obtain ⟨T, hT⟩ : ∃ T, w3.heap.size = T := ⟨_, rfl⟩
  rw [hT] at T4 hAT
  clear q hd hdn Z2 Q2 L2 HB2 HBG HAT hw2 Z3 Q3
  go_upto_region 5 with fail
  generalize w3.alloc (.cells #[.int .i64 Y, .int .i64 m, .int .i64 d, .int .i64 0, .int .i64 0, .int .i64 0] 23) = w4 at *
  clear hT
  have hT2 : A ≠ T := by omega
  have hT3 : ¬ T = A := by omega
  have hAT2 : A ≤ T := by omega
  have tl := T4.out.lt
  have tf := T4.out.frozen
  obtain ⟨t0, t1, t2, t3, t4, t5⟩ := T4.out.cells6
  obtain ⟨w5, hw5⟩ : ∃ w5, ((w4.setCell ⟨T, 3, none⟩ (.int .i64 h)).setCell ⟨T, 4, none⟩ (.int .i64 i)).setCell ⟨T, 5, none⟩ (.int .i64 s) = w5 := ⟨_, rfl⟩
  have Z5 : Hid (Blk w5 A 23 #[.int .i64 0, .int .i64 0, .int .i64 0, .int .i64 0, .int .i64 0, .int .i64 0]) := by
    rw [← hw5]
    exact ((Z4.out.far (p := ⟨T, 3, none⟩) hT2 _).far (p := ⟨T, 4, none⟩) hT2 _).far (p := ⟨T, 5, none⟩) hT2 _
  have Q5 : Hid (Below A w w5) := by
    rw [← hw5]
    exact ((Q4.out.setCell (p := ⟨T, 3, none⟩) hAT2 _).setCell (p := ⟨T, 4, none⟩) hAT2 _).setCell (p := ⟨T, 5, none⟩) hAT2 _
  have T5 : Hid (Blk w5 T 23 #[.int .i64 Y, .int .i64 m, .int .i64 d, .int .i64 h, .int .i64 i, .int .i64 s]) := by
    rw [← hw5]
    have := ((T4.out.set_ 3 (.int .i64 h)).set_ 4 (.int .i64 i)).set_ 5 (.int .i64 s)
    rw [Hid]
    simpa using this
  clear Z4 Q4 T4
  go_upto_region 9 with fail
  clear hw5 tl tf t0 t1 t2 t3 t4 t5
  obtain ⟨t0, t1, t2, t3, t4, t5⟩ := T5.out.cells6
  obtain ⟨z0, z1, z2, z3, z4, z5⟩ := Z5.out.cells6
  have zl := Z5.out.lt
  have zf := Z5.out.frozen
  have ZF := Lib.hid (Z5.out.six (.int .i64 Y) (.int .i64 m) (.int .i64 d) (.int .i64 h) (.int .i64 i) (.int .i64 s))
  have QF := Lib.hid (below_six Q5.out (Nat.le_refl A) (.int .i64 Y) (.int .i64 m) (.int .i64 d) (.int .i64 h) (.int .i64 i) (.int .i64 s))
  go_wp2_with fail
  obtain ⟨y0, y1, y2, y3, y4, y5⟩ := ZF.out.cells6
  have q := QF.out
  generalize ((((((w5.setCell ⟨A, 0, none⟩ (.int .i64 Y)).setCell ⟨A, 1, none⟩ (.int .i64 m)).setCell ⟨A, 2, none⟩ (.int .i64 d)).setCell ⟨A, 3, none⟩ (.int .i64 h)).setCell ⟨A, 4, none⟩ (.int .i64 i)).setCell ⟨A, 5, none⟩ (.int .i64 s)) = w9 at *
  exact bodyPost_ret (v := .tuple #[.agg #[.int .i64 Y, .int .i64 m, .int .i64 d, .int .i64 h, .int .i64 i, .int .i64 s], .int .i64 0]) (by simp [results, Tryd.results24, go_sem, y0, y1, y2, y3, y4, y5]) rfl ⟨⟨⟨Y, m, d, h, i, s⟩, 0, rfl, fun h => by omega, fun _ => ⟨AT.out.1, AT.out.2, rfl⟩⟩, q⟩
end Go.Proofs.YtneeddbonhiflaaDoor
