/-
  Contracts of the program's DecodeUTC and DecodeGeneral.
-/
import Derived.Test.YtneeddbonhiflaaDoorClkFld2
import Derived.Test.YtneeddbonhiflaaDoorClkFld4
namespace Go.Proofs.YtneeddbonhiflaaDoor
open Go.RowKit

theorem pfields2_any {w : World} {a : Option Addr} {n c : Nat} {l : List UInt8} (hx : Bs w a n c l) :
    Calls Tryd.prog 31 #[.slice a n c, .int .i64 2] w fun e w' => (∃ T b, e = .returned (.tuple #[tmV T, .bool b]) ∧ (-400000 ≤ T.y ∧ T.y ≤ 400000) ∧ (b = true → good 2 l ∧ T = fldO (numO (l.take 2)) l 2) ∧ (b = false → ¬ good 2 l)) ∧ Below w.heap.size w w' := by
  by_cases hne : n = 13
  · by_cases hz : l[12]? = some 90
    · refine (pfld_yes2 hx hne hz).mono ?_
      rintro e w' ⟨he, q⟩
      refine ⟨⟨_, _, he, ?_, ?_, ?_⟩, q⟩
      · have := numP_bd (l := l.take 2) (by rw [List.length_take]; omega)
        dsimp only
        omega
      · intro hb
        exact ⟨⟨by rw [hx.len, hne], hz, hb⟩, fld_num 2 l hb⟩
      · intro hb hg
        have h3 : (l.take 12).all isDg = true := hg.2.2
        rw [h3] at hb
        cases hb
    · refine (pfld_no2 hx (.inr ⟨hne, hz⟩)).mono ?_
      rintro e w' ⟨he, q⟩
      exact ⟨⟨tm0, false, he, by unfold tm0; dsimp only; omega, (by intro h; cases h), fun _ hg => hz hg.2.1⟩, q⟩
  · refine (pfld_no2 hx (.inl hne)).mono ?_
    rintro e w' ⟨he, q⟩
    exact ⟨⟨tm0, false, he, by unfold tm0; dsimp only; omega, (by intro h; cases h), fun _ hg => hne (by rw [← hx.len]; exact hg.1)⟩, q⟩

theorem pfields4_any {w : World} {a : Option Addr} {n c : Nat} {l : List UInt8} (hx : Bs w a n c l) :
    Calls Tryd.prog 31 #[.slice a n c, .int .i64 4] w fun e w' => (∃ T b, e = .returned (.tuple #[tmV T, .bool b]) ∧ (-400000 ≤ T.y ∧ T.y ≤ 400000) ∧ (b = true → good 4 l ∧ T = fldO (numO (l.take 4)) l 4) ∧ (b = false → ¬ good 4 l)) ∧ Below w.heap.size w w' := by
  by_cases hne : n = 15
  · by_cases hz : l[14]? = some 90
    · refine (pfld_yes4 hx hne hz).mono ?_
      rintro e w' ⟨he, q⟩
      refine ⟨⟨_, _, he, ?_, ?_, ?_⟩, q⟩
      · have := numP_bd (l := l.take 4) (by rw [List.length_take]; omega)
        dsimp only
        omega
      · intro hb
        exact ⟨⟨by rw [hx.len, hne], hz, hb⟩, fld_num 4 l hb⟩
      · intro hb hg
        have h3 : (l.take 14).all isDg = true := hg.2.2
        rw [h3] at hb
        cases hb
    · refine (pfld_no4 hx (.inr ⟨hne, hz⟩)).mono ?_
      rintro e w' ⟨he, q⟩
      exact ⟨⟨tm0, false, he, by unfold tm0; dsimp only; omega, (by intro h; cases h), fun _ hg => hz hg.2.1⟩, q⟩
  · refine (pfld_no4 hx (.inl hne)).mono ?_
    rintro e w' ⟨he, q⟩
    exact ⟨⟨tm0, false, he, by unfold tm0; dsimp only; omega, (by intro h; cases h), fun _ hg => hne (by rw [← hx.len]; exact hg.1)⟩, q⟩

set_option maxRecDepth 100000 in
set_option maxHeartbeats 8000000 in
theorem pdecG_any {w : World} {a : Option Addr} {n c : Nat} {l : List UInt8} (hx : Bs w a n c l) (hW : Wd w) :
    Calls Tryd.prog 17 #[.slice a n c] w fun e w' => e = .returned (.tuple #[tmV (decG l).1, .int .i64 (decG l).2]) ∧ Below w.heap.size w w' := by
  have HF := Lib.hid (fun v (h : Bs v a n c l) => pfields4_any h)
  have HK := Lib.hid (fun T b v (hq : Below w.heap.size w v) => checked_any T b v (hW.below hq))
  obtain ⟨A, hA⟩ : ∃ A, w.heap.size = A := ⟨_, rfl⟩
  have Z1 := Lib.hid (Blk.new w 23 #[.int .i64 0, .int .i64 0, .int .i64 0, .int .i64 0, .int .i64 0, .int .i64 0])
  have Q1 := Lib.hid (bal (Below.refl w.heap.size w) (.cells #[.int .i64 0, .int .i64 0, .int .i64 0, .int .i64 0, .int .i64 0, .int .i64 0] 23))
  have X1 := Lib.hid (hx.alloc (.cells #[.int .i64 0, .int .i64 0, .int .i64 0, .int .i64 0, .int .i64 0, .int .i64 0] 23))
  rw [hA] at Z1 Q1 HK ⊢
  have L1 : Hid (A < (w.alloc (.cells #[.int .i64 0, .int .i64 0, .int .i64 0, .int .i64 0, .int .i64 0, .int .i64 0] 23)).heap.size) := Z1.out.lt
  clear hx hW
  go_enter Tryd.func17, Tryd.ntmps17
  go_wp2_with fail
  generalize w.alloc (.cells #[.int .i64 0, .int .i64 0, .int .i64 0, .int .i64 0, .int .i64 0, .int .i64 0] 23) = w1 at *
  with_reducible refine (HF.out _ X1.out).mono ?_
  rintro e w2 ⟨⟨⟨y, m, d, h, i, s⟩, b, rfl, hb1, hb2, hb3⟩, q⟩
  have HC : Hid (ckd b ⟨y, m, d, h, i, s⟩ = decG l) := ckd_G hb2 hb3
  have Z2 := Lib.hid (Z1.out.below q L1.out)
  have L2 := Lib.hid Z2.out.lt
  have Q2 : Hid (Below A w w2) := Q1.out.trans (q.mono (Nat.le_of_lt L1.out))
  have HK2 := Lib.hid (HK.out ⟨y, m, d, h, i, s⟩ b w2 Q2.out)
  rw [HC.out] at HK2
  clear q hb1 hb2 hb3 Z1 Q1 L1 X1 HF HK HC
  obtain ⟨D, hD⟩ : ∃ D, decG l = D := ⟨_, rfl⟩
  rw [hD] at HK2
  have HDD := Lib.hid hD
  clear hD
  obtain ⟨⟨yr, mr, dr, hr, ir, sr⟩, k⟩ := D
  unfold tmV at HK2 ⊢
  dsimp only at HK2 ⊢
  go_wp2_with fail
  with_reducible refine (HK2.out).mono ?_
  rintro e w3 ⟨rfl, q⟩
  have Z3 := Lib.hid (Z2.out.below q L2.out)
  have Q3 : Hid (Below A w w3) := Q2.out.trans (q.mono (Nat.le_of_lt L2.out))
  clear q Z2 Q2 L2 HK2
  obtain ⟨z0, z1, z2, z3, z4, z5⟩ := Z3.out.cells6
  have zl := Z3.out.lt
  have zf := Z3.out.frozen
  have ZF := Lib.hid (Z3.out.six (.int .i64 yr) (.int .i64 mr) (.int .i64 dr) (.int .i64 hr) (.int .i64 ir) (.int .i64 sr))
  have QF := Lib.hid (below_six Q3.out (Nat.le_refl A) (.int .i64 yr) (.int .i64 mr) (.int .i64 dr) (.int .i64 hr) (.int .i64 ir) (.int .i64 sr))
  go_wp2_with fail
  obtain ⟨y0, y1, y2, y3, y4, y5⟩ := ZF.out.cells6
  have q := QF.out
  generalize ((((((w3.setCell ⟨A, 0, none⟩ (.int .i64 yr)).setCell ⟨A, 1, none⟩ (.int .i64 mr)).setCell ⟨A, 2, none⟩ (.int .i64 dr)).setCell ⟨A, 3, none⟩ (.int .i64 hr)).setCell ⟨A, 4, none⟩ (.int .i64 ir)).setCell ⟨A, 5, none⟩ (.int .i64 sr)) = w9 at *
  exact bodyPost_ret (v := .tuple #[.agg #[.int .i64 yr, .int .i64 mr, .int .i64 dr, .int .i64 hr, .int .i64 ir, .int .i64 sr], .int .i64 k]) (by simp [results, Tryd.results17, go_sem, y0, y1, y2, y3, y4, y5]) rfl ⟨by rw [HDD.out]; rfl, q⟩

set_option maxRecDepth 100000 in
set_option maxHeartbeats 8000000 in
theorem pdecU_any {w : World} {a : Option Addr} {n c : Nat} {l : List UInt8} (hx : Bs w a n c l) (hW : Wd w) :
    Calls Tryd.prog 16 #[.slice a n c] w fun e w' => e = .returned (.tuple #[tmV (decU l).1, .int .i64 (decU l).2]) ∧ Below w.heap.size w w' := by
  have HF := Lib.hid (fun v (h : Bs v a n c l) => pfields2_any h)
  have HK := Lib.hid (fun T b v (hq : Below w.heap.size w v) => checked_any T b v (hW.below hq))
  obtain ⟨A, hA⟩ : ∃ A, w.heap.size = A := ⟨_, rfl⟩
  have Z1 := Lib.hid (Blk.new w 23 #[.int .i64 0, .int .i64 0, .int .i64 0, .int .i64 0, .int .i64 0, .int .i64 0])
  have Q1 := Lib.hid (bal (Below.refl w.heap.size w) (.cells #[.int .i64 0, .int .i64 0, .int .i64 0, .int .i64 0, .int .i64 0, .int .i64 0] 23))
  have X1 := Lib.hid (hx.alloc (.cells #[.int .i64 0, .int .i64 0, .int .i64 0, .int .i64 0, .int .i64 0, .int .i64 0] 23))
  rw [hA] at Z1 Q1 HK ⊢
  have L1 : Hid (A < (w.alloc (.cells #[.int .i64 0, .int .i64 0, .int .i64 0, .int .i64 0, .int .i64 0, .int .i64 0] 23)).heap.size) := Z1.out.lt
  clear hx hW
  go_enter Tryd.func16, Tryd.ntmps16
  go_wp2_with fail
  generalize w.alloc (.cells #[.int .i64 0, .int .i64 0, .int .i64 0, .int .i64 0, .int .i64 0, .int .i64 0] 23) = w1 at *
  with_reducible refine (HF.out _ X1.out).mono ?_
  rintro e w2 ⟨⟨⟨y, m, d, h, i, s⟩, b, rfl, hb1, hb2, hb3⟩, q⟩
  have HC : Hid (ckd b ⟨yearU y, m, d, h, i, s⟩ = decU l) := ckd_U hb2 hb3
  have Z2 := Lib.hid (Z1.out.below q L1.out)
  have L2 := Lib.hid Z2.out.lt
  have Q2 : Hid (Below A w w2) := Q1.out.trans (q.mono (Nat.le_of_lt L1.out))
  dsimp only at hb1
  have HK3 := Lib.hid (fun v hq => HK.out ⟨yearU y, m, d, h, i, s⟩ b v hq)
  rw [HC.out] at HK3
  clear q hb2 hb3 Z1 Q1 L1 X1 HF HK HC
  obtain ⟨D, hD⟩ : ∃ D, decU l = D := ⟨_, rfl⟩
  rw [hD] at HK3
  have HDD := Lib.hid hD
  clear hD
  obtain ⟨⟨yr, mr, dr, hr, ir, sr⟩, k⟩ := D
  unfold tmV at HK3 ⊢
  dsimp only at HK3 ⊢
  have v1 : IntKind.i64.wrap (y + 1900) = 1900 + y := by rw [wr_num (by omega)]; omega
  by_cases hy : 1900 + y < 1950
  · have v2 : IntKind.i64.wrap (1900 + y + 100) = 1900 + y + 100 := wr_num (by omega)
    have ey : yearU y = 1900 + y + 100 := if_pos hy
    rw [ey] at HK3
    clear hb1
    have Z2a := Lib.hid (Z2.out.alloc (.cells #[.int .i64 (1900 + y + 100), .int .i64 m, .int .i64 d, .int .i64 h, .int .i64 i, .int .i64 s] 23))
    have Q2a := Lib.hid (Q2.out.alloc (Nat.le_of_lt L2.out) (.cells #[.int .i64 (1900 + y + 100), .int .i64 m, .int .i64 d, .int .i64 h, .int .i64 i, .int .i64 s] 23))
    have L2a : Hid (A < (w2.alloc (.cells #[.int .i64 (1900 + y + 100), .int .i64 m, .int .i64 d, .int .i64 h, .int .i64 i, .int .i64 s] 23)).heap.size) := Z2a.out.lt
    go_wp2_with fail
    generalize w2.alloc (.cells #[.int .i64 (1900 + y + 100), .int .i64 m, .int .i64 d, .int .i64 h, .int .i64 i, .int .i64 s] 23) = wa at *
    with_reducible refine (HK3.out _ Q2a.out).mono ?_
    rintro e w3 ⟨rfl, q⟩
    have Z3 := Lib.hid (Z2a.out.below q L2a.out)
    have Q3 : Hid (Below A w w3) := Q2a.out.trans (q.mono (Nat.le_of_lt L2a.out))
    clear q Z2 Q2 L2 HK3 Z2a Q2a L2a
    obtain ⟨z0, z1, z2, z3, z4, z5⟩ := Z3.out.cells6
    have zl := Z3.out.lt
    have zf := Z3.out.frozen
    have ZF := Lib.hid (Z3.out.six (.int .i64 yr) (.int .i64 mr) (.int .i64 dr) (.int .i64 hr) (.int .i64 ir) (.int .i64 sr))
    have QF := Lib.hid (below_six Q3.out (Nat.le_refl A) (.int .i64 yr) (.int .i64 mr) (.int .i64 dr) (.int .i64 hr) (.int .i64 ir) (.int .i64 sr))
    go_wp2_with fail
    obtain ⟨y0, y1, y2, y3, y4, y5⟩ := ZF.out.cells6
    have q := QF.out
    generalize ((((((w3.setCell ⟨A, 0, none⟩ (.int .i64 yr)).setCell ⟨A, 1, none⟩ (.int .i64 mr)).setCell ⟨A, 2, none⟩ (.int .i64 dr)).setCell ⟨A, 3, none⟩ (.int .i64 hr)).setCell ⟨A, 4, none⟩ (.int .i64 ir)).setCell ⟨A, 5, none⟩ (.int .i64 sr)) = w9 at *
    exact bodyPost_ret (v := .tuple #[.agg #[.int .i64 yr, .int .i64 mr, .int .i64 dr, .int .i64 hr, .int .i64 ir, .int .i64 sr], .int .i64 k]) (by simp [results, Tryd.results16, go_sem, y0, y1, y2, y3, y4, y5]) rfl ⟨by rw [HDD.out]; rfl, q⟩
  · have ey : yearU y = 1900 + y := if_neg hy
    rw [ey] at HK3
    clear hb1
    have Z2a := Lib.hid (Z2.out.alloc (.cells #[.int .i64 (1900 + y), .int .i64 m, .int .i64 d, .int .i64 h, .int .i64 i, .int .i64 s] 23))
    have Q2a := Lib.hid (Q2.out.alloc (Nat.le_of_lt L2.out) (.cells #[.int .i64 (1900 + y), .int .i64 m, .int .i64 d, .int .i64 h, .int .i64 i, .int .i64 s] 23))
    have L2a : Hid (A < (w2.alloc (.cells #[.int .i64 (1900 + y), .int .i64 m, .int .i64 d, .int .i64 h, .int .i64 i, .int .i64 s] 23)).heap.size) := Z2a.out.lt
    go_wp2_with fail
    generalize w2.alloc (.cells #[.int .i64 (1900 + y), .int .i64 m, .int .i64 d, .int .i64 h, .int .i64 i, .int .i64 s] 23) = wa at *
    with_reducible refine (HK3.out _ Q2a.out).mono ?_
    rintro e w3 ⟨rfl, q⟩
    have Z3 := Lib.hid (Z2a.out.below q L2a.out)
    have Q3 : Hid (Below A w w3) := Q2a.out.trans (q.mono (Nat.le_of_lt L2a.out))
    clear q Z2 Q2 L2 HK3 Z2a Q2a L2a
    obtain ⟨z0, z1, z2, z3, z4, z5⟩ := Z3.out.cells6
    have zl := Z3.out.lt
    have zf := Z3.out.frozen
    have ZF := Lib.hid (Z3.out.six (.int .i64 yr) (.int .i64 mr) (.int .i64 dr) (.int .i64 hr) (.int .i64 ir) (.int .i64 sr))
    have QF := Lib.hid (below_six Q3.out (Nat.le_refl A) (.int .i64 yr) (.int .i64 mr) (.int .i64 dr) (.int .i64 hr) (.int .i64 ir) (.int .i64 sr))
    go_wp2_with fail
    obtain ⟨y0, y1, y2, y3, y4, y5⟩ := ZF.out.cells6
    have q := QF.out
    generalize ((((((w3.setCell ⟨A, 0, none⟩ (.int .i64 yr)).setCell ⟨A, 1, none⟩ (.int .i64 mr)).setCell ⟨A, 2, none⟩ (.int .i64 dr)).setCell ⟨A, 3, none⟩ (.int .i64 hr)).setCell ⟨A, 4, none⟩ (.int .i64 ir)).setCell ⟨A, 5, none⟩ (.int .i64 sr)) = w9 at *
    exact bodyPost_ret (v := .tuple #[.agg #[.int .i64 yr, .int .i64 mr, .int .i64 dr, .int .i64 hr, .int .i64 ir, .int .i64 sr], .int .i64 k]) (by simp [results, Tryd.results16, go_sem, y0, y1, y2, y3, y4, y5]) rfl ⟨by rw [HDD.out]; rfl, q⟩
end Go.Proofs.YtneeddbonhiflaaDoor
