/-
  Contracts of the reference's DecodeUTC and DecodeGeneral.
-/
import Derived.Test.YtneeddbonhiflaaDoorClFld
namespace Go.Proofs.YtneeddbonhiflaaDoor
open Go.RowKit

def tm0 : Tm := ⟨0, 0, 0, 0, 0, 0⟩
/-- the candidates: the points in time that the digits name -/
def candG (l : List UInt8) : Tm := fldO (numO (l.take 4)) l 4
def yearU (n : Int) : Int := if 1900 + n < 1950 then 1900 + n + 100 else 1900 + n
def candU (l : List UInt8) : Tm := fldO (yearU (numO (l.take 2))) l 2
/-- what is decoded, and the code -/
def decG (l : List UInt8) : Tm × Int := if (genE (candG l)).2 = 0 ∧ eqB (genE (candG l)).1 l = true then (candG l, 0) else (tm0, 6)
def decU (l : List UInt8) : Tm × Int := if (utcE (candU l)).2 = 0 ∧ eqB (utcE (candU l)).1 l = true then (candU l, 0) else (tm0, 6)
theorem if_code {a b : Int} {x y : Tm × Int} {p : Prop} [Decidable p] (h : a = b) (hb : b ≠ 0) : (if a = 0 ∧ p then x else y) = y := if_neg (fun ⟨e, _⟩ => hb (by rw [← h]; exact e))

set_option maxRecDepth 100000 in
set_option maxHeartbeats 8000000 in
theorem decG_any {w : World} {a : Option Addr} {n c : Nat} {l : List UInt8} (hx : Bs w a n c l) :
    Calls Tryd.prog 19 #[.slice a n c] w fun e w' => e = .returned (.tuple #[tmV (decG l).1, .int .i64 (decG l).2]) ∧ Below w.heap.size w w' := by
  obtain ⟨H, hH⟩ : ∃ H, w.heap.size = H := ⟨_, rfl⟩
  have N0 : Hid (∀ v, Bs v a n c l → Calls Tryd.prog 33 #[.slice a n c, .int .i64 0, .int .i64 4] v fun e w' => e = .returned (.int .i64 (numO (l.take 4))) ∧ w' = v) := Lib.hid fun v h => number_any h 0 4 (by omega) (by omega)
  have F0 : Hid (∀ v, Bs v a n c l → Calls Tryd.prog 34 #[.int .i64 (numO (l.take 4)), .slice a n c, .int .i64 4] v fun e w' => e = .returned (tmV (candG l)) ∧ Below v.heap.size v w') := Lib.hid fun v h => fields_any h _ 4 (by omega)
  have E0 := Lib.hid (fun v => gen_any (candG l) v)
  have HNB : Hid (numO (l.take 4) ≤ 20000) := by
    have := numO_le (l.take 4)
    rw [List.length_take] at this
    have h2 : 10 ^ min 4 l.length ≤ 10 ^ 4 := Nat.pow_le_pow_right (by omega) (by omega)
    have h3 : (10 : Nat) ^ 4 = 10000 := rfl
    rw [Hid]
    omega
  have HB := Lib.hid (fun v a' c' (hb : Bs v a' (genE (candG l)).1.length c' (genE (candG l)).1) (hl : Bs v a n c l) => bytes_any hb hl)
  obtain ⟨R, hR⟩ : ∃ R, decG l = R := ⟨_, rfl⟩
  have HR := Lib.hid hR
  unfold decG at HR
  rw [hR]
  clear hR
  generalize hE2 : (genE (candG l)).2 = e2 at *
  generalize (genE (candG l)).1 = L at *
  obtain ⟨m1, hm1⟩ : ∃ m1, L.length = m1 := ⟨_, rfl⟩
  rw [hm1] at E0 HB
  clear hE2
  generalize candG l = T at *
  obtain ⟨y, m, d, h, i, s⟩ := T
  unfold tmV at E0 F0 ⊢
  dsimp only at E0 F0
  have X0 := Lib.hid hx
  clear hx
  go_enter Tryd.func19, Tryd.ntmps19
  go_wp2_with fail
  have Q1 : Hid (Below H w (w.alloc (.cells #[.int .i64 0, .int .i64 0, .int .i64 0, .int .i64 0, .int .i64 0, .int .i64 0] 23))) := by rw [← hH]; exact bal (Below.refl _ _) _
  have Z1 : Hid (Blk (w.alloc (.cells #[.int .i64 0, .int .i64 0, .int .i64 0, .int .i64 0, .int .i64 0, .int .i64 0] 23)) H 23 #[.int .i64 0, .int .i64 0, .int .i64 0, .int .i64 0, .int .i64 0, .int .i64 0]) := by rw [← hH]; exact Blk.new _ _ _
  have X1 := Lib.hid (X0.out.alloc (.cells #[.int .i64 0, .int .i64 0, .int .i64 0, .int .i64 0, .int .i64 0, .int .i64 0] 23))
  generalize w.alloc (.cells #[.int .i64 0, .int .i64 0, .int .i64 0, .int .i64 0, .int .i64 0, .int .i64 0] 23) = w1 at *
  with_reducible refine (N0.out _ X1.out).mono ?_
  rintro e w1 ⟨rfl, rfl⟩
  go_wp2_with fail
  with_reducible refine (F0.out _ X1.out).mono ?_
  rintro e w2 ⟨rfl, q⟩
  have Q2 : Hid (Below H w w2) := by rw [← hH]; exact bthen (by rw [hH]; exact Q1.out) q
  have Z2 := Lib.hid (Z1.out.below q Z1.out.lt)
  have X2 := Lib.hid (X1.out.below q)
  clear q
  have HG := Lib.hid Z2.out.lt
  obtain ⟨G, hG⟩ : ∃ G, w2.heap.size = G := ⟨_, rfl⟩
  go_wp2_with fail
  have Q3 := Lib.hid (Q2.out.alloc (Nat.le_of_lt HG.out) (.cells #[.int .i64 y, .int .i64 m, .int .i64 d, .int .i64 h, .int .i64 i, .int .i64 s] 23))
  have Z3 := Lib.hid (Z2.out.alloc (.cells #[.int .i64 y, .int .i64 m, .int .i64 d, .int .i64 h, .int .i64 i, .int .i64 s] 23))
  have X3 := Lib.hid (X2.out.alloc (.cells #[.int .i64 y, .int .i64 m, .int .i64 d, .int .i64 h, .int .i64 i, .int .i64 s] 23))
  have K3 : Hid (Blk (w2.alloc (.cells #[.int .i64 y, .int .i64 m, .int .i64 d, .int .i64 h, .int .i64 i, .int .i64 s] 23)) G 23 #[.int .i64 y, .int .i64 m, .int .i64 d, .int .i64 h, .int .i64 i, .int .i64 s]) := by rw [← hG]; exact Blk.new _ _ _
  generalize w2.alloc (.cells #[.int .i64 y, .int .i64 m, .int .i64 d, .int .i64 h, .int .i64 i, .int .i64 s] 23) = w3 at *
  with_reducible refine (E0.out _).mono ?_
  rintro e w4 ⟨a4, c4, rfl, ho, q⟩
  have Q4 : Hid (Below H w w4) := by rw [← hH]; exact bthen (by rw [hH]; exact Q3.out) q
  have Z4 := Lib.hid (Z3.out.below q Z3.out.lt)
  have X4 := Lib.hid (X3.out.below q)
  have K4 := Lib.hid (K3.out.below q K3.out.lt)
  have O4 := Lib.hid ho
  clear q ho hG
  obtain ⟨z0, z1, z2, z3, z4, z5⟩ := Z4.out.cells6
  have zl := Z4.out.lt
  have zf := Z4.out.frozen
  obtain ⟨k0, k1, k2, k3, k4, k5⟩ := K4.out.cells6
  by_cases he : e2 = 0
  · subst he
    rcases hq : eqB L l with _ | _
    · obtain rfl : R = (tm0, 6) := by have e := HR.out; rw [hq] at e; exact e.symm.trans (if_neg (by simp))
      rw [hq] at HB
      have ZF := Lib.hid (Z4.out.six (.int .i64 0) (.int .i64 0) (.int .i64 0) (.int .i64 0) (.int .i64 0) (.int .i64 0))
      have QF := Lib.hid (below_six Q4.out (Nat.le_refl H) (.int .i64 0) (.int .i64 0) (.int .i64 0) (.int .i64 0) (.int .i64 0) (.int .i64 0))
      go_wp2_with fail
      with_reducible refine (HB.out _ _ _ O4.out X4.out).mono ?_
      rintro e w4 ⟨rfl, rfl⟩
      go_wp2_with fail
      obtain ⟨y0, y1, y2, y3, y4, y5⟩ := ZF.out.cells6
      have q := QF.out
      generalize (((((w4.setCell ⟨H, 0, none⟩ (.int .i64 0)).setCell ⟨H, 1, none⟩ (.int .i64 0)).setCell ⟨H, 2, none⟩ (.int .i64 0)).setCell ⟨H, 3, none⟩ (.int .i64 0)).setCell ⟨H, 4, none⟩ (.int .i64 0)).setCell ⟨H, 5, none⟩ (.int .i64 0) = w9 at *
      exact bodyPost_ret (v := .tuple #[.agg #[.int .i64 0, .int .i64 0, .int .i64 0, .int .i64 0, .int .i64 0, .int .i64 0], .int .i64 6]) (by simp [results, Tryd.results19, go_sem, y0, y1, y2, y3, y4, y5]) rfl ⟨rfl, by first | exact q | (rw [hH]; exact q)⟩
    · obtain rfl : R = (⟨y, m, d, h, i, s⟩, 0) := by have e := HR.out; rw [hq] at e; exact e.symm.trans (if_pos ⟨rfl, rfl⟩)
      rw [hq] at HB
      have ZF := Lib.hid (Z4.out.six (.int .i64 y) (.int .i64 m) (.int .i64 d) (.int .i64 h) (.int .i64 i) (.int .i64 s))
      have QF := Lib.hid (below_six Q4.out (Nat.le_refl H) (.int .i64 y) (.int .i64 m) (.int .i64 d) (.int .i64 h) (.int .i64 i) (.int .i64 s))
      go_wp2_with fail
      with_reducible refine (HB.out _ _ _ O4.out X4.out).mono ?_
      rintro e w4 ⟨rfl, rfl⟩
      go_wp2_with fail
      obtain ⟨y0, y1, y2, y3, y4, y5⟩ := ZF.out.cells6
      have q := QF.out
      generalize (((((w4.setCell ⟨H, 0, none⟩ (.int .i64 y)).setCell ⟨H, 1, none⟩ (.int .i64 m)).setCell ⟨H, 2, none⟩ (.int .i64 d)).setCell ⟨H, 3, none⟩ (.int .i64 h)).setCell ⟨H, 4, none⟩ (.int .i64 i)).setCell ⟨H, 5, none⟩ (.int .i64 s) = w9 at *
      exact bodyPost_ret (v := .tuple #[.agg #[.int .i64 y, .int .i64 m, .int .i64 d, .int .i64 h, .int .i64 i, .int .i64 s], .int .i64 0]) (by simp [results, Tryd.results19, go_sem, y0, y1, y2, y3, y4, y5]) rfl ⟨rfl, by first | exact q | (rw [hH]; exact q)⟩
  · obtain rfl : R = (tm0, 6) := HR.out.symm.trans (if_neg (fun h => he h.1))
    have he2 : (e2 == 0) = false := by rw [beq_eq_false_iff_ne]; exact he
    have ZF := Lib.hid (Z4.out.six (.int .i64 0) (.int .i64 0) (.int .i64 0) (.int .i64 0) (.int .i64 0) (.int .i64 0))
    have QF := Lib.hid (below_six Q4.out (Nat.le_refl H) (.int .i64 0) (.int .i64 0) (.int .i64 0) (.int .i64 0) (.int .i64 0) (.int .i64 0))
    go_wp2_with fail
    obtain ⟨y0, y1, y2, y3, y4, y5⟩ := ZF.out.cells6
    have q := QF.out
    generalize (((((w4.setCell ⟨H, 0, none⟩ (.int .i64 0)).setCell ⟨H, 1, none⟩ (.int .i64 0)).setCell ⟨H, 2, none⟩ (.int .i64 0)).setCell ⟨H, 3, none⟩ (.int .i64 0)).setCell ⟨H, 4, none⟩ (.int .i64 0)).setCell ⟨H, 5, none⟩ (.int .i64 0) = w9 at *
    exact bodyPost_ret (v := .tuple #[.agg #[.int .i64 0, .int .i64 0, .int .i64 0, .int .i64 0, .int .i64 0, .int .i64 0], .int .i64 6]) (by simp [results, Tryd.results19, go_sem, y0, y1, y2, y3, y4, y5]) rfl ⟨rfl, by first | exact q | (rw [hH]; exact q)⟩

set_option maxRecDepth 100000 in
set_option maxHeartbeats 8000000 in
theorem decU_any {w : World} {a : Option Addr} {n c : Nat} {l : List UInt8} (hx : Bs w a n c l) :
    Calls Tryd.prog 18 #[.slice a n c] w fun e w' => e = .returned (.tuple #[tmV (decU l).1, .int .i64 (decU l).2]) ∧ Below w.heap.size w w' := by
  obtain ⟨H, hH⟩ : ∃ H, w.heap.size = H := ⟨_, rfl⟩
  have N0 : Hid (∀ v, Bs v a n c l → Calls Tryd.prog 33 #[.slice a n c, .int .i64 0, .int .i64 2] v fun e w' => e = .returned (.int .i64 (numO (l.take 2))) ∧ w' = v) := Lib.hid fun v h => number_any h 0 2 (by omega) (by omega)
  have F0 : Hid (∀ v, Bs v a n c l → Calls Tryd.prog 34 #[.int .i64 (yearU (numO (l.take 2))), .slice a n c, .int .i64 2] v fun e w' => e = .returned (tmV (candU l)) ∧ Below v.heap.size v w') := Lib.hid fun v h => fields_any h _ 2 (by omega)
  have E0 := Lib.hid (fun v => utc_any (candU l) v)
  have HNB : Hid (numO (l.take 2) ≤ 20000) := by
    have := numO_le (l.take 2)
    rw [List.length_take] at this
    have h2 : 10 ^ min 2 l.length ≤ 10 ^ 4 := Nat.pow_le_pow_right (by omega) (by omega)
    have h3 : (10 : Nat) ^ 4 = 10000 := rfl
    rw [Hid]
    omega
  have HB := Lib.hid (fun v a' c' (hb : Bs v a' (utcE (candU l)).1.length c' (utcE (candU l)).1) (hl : Bs v a n c l) => bytes_any hb hl)
  obtain ⟨R, hR⟩ : ∃ R, decU l = R := ⟨_, rfl⟩
  have HR := Lib.hid hR
  unfold decU at HR
  rw [hR]
  clear hR
  generalize hE2 : (utcE (candU l)).2 = e2 at *
  generalize (utcE (candU l)).1 = L at *
  obtain ⟨m1, hm1⟩ : ∃ m1, L.length = m1 := ⟨_, rfl⟩
  rw [hm1] at E0 HB
  clear hE2
  generalize candU l = T at *
  obtain ⟨y, m, d, h, i, s⟩ := T
  unfold tmV at E0 F0 ⊢
  dsimp only at E0 F0
  have X0 := Lib.hid hx
  clear hx
  obtain ⟨V, hV⟩ : ∃ V, numO (l.take 2) = V := ⟨_, rfl⟩
  rw [hV] at N0 F0 HNB
  have hVb := HNB.out
  clear hV HNB
  have s1 : IntKind.i64.wrap (1900 + (V : Int)) = 1900 + (V : Int) := wr_num (by omega)
  have s2 : IntKind.i64.wrap (1900 + (V : Int) + 100) = 1900 + (V : Int) + 100 := wr_num (by omega)
  unfold yearU at F0
  by_cases hy : 1900 + (V : Int) < 1950
  · rw [if_pos hy] at F0
    go_enter Tryd.func18, Tryd.ntmps18
    go_wp2_with fail
    have Q1 : Hid (Below H w (w.alloc (.cells #[.int .i64 0, .int .i64 0, .int .i64 0, .int .i64 0, .int .i64 0, .int .i64 0] 23))) := by rw [← hH]; exact bal (Below.refl _ _) _
    have Z1 : Hid (Blk (w.alloc (.cells #[.int .i64 0, .int .i64 0, .int .i64 0, .int .i64 0, .int .i64 0, .int .i64 0] 23)) H 23 #[.int .i64 0, .int .i64 0, .int .i64 0, .int .i64 0, .int .i64 0, .int .i64 0]) := by rw [← hH]; exact Blk.new _ _ _
    have X1 := Lib.hid (X0.out.alloc (.cells #[.int .i64 0, .int .i64 0, .int .i64 0, .int .i64 0, .int .i64 0, .int .i64 0] 23))
    generalize w.alloc (.cells #[.int .i64 0, .int .i64 0, .int .i64 0, .int .i64 0, .int .i64 0, .int .i64 0] 23) = w1 at *
    with_reducible refine (N0.out _ X1.out).mono ?_
    rintro e w1 ⟨rfl, rfl⟩
    go_wp2_with fail
    with_reducible refine (F0.out _ X1.out).mono ?_
    rintro e w2 ⟨rfl, q⟩
    have Q2 : Hid (Below H w w2) := by rw [← hH]; exact bthen (by rw [hH]; exact Q1.out) q
    have Z2 := Lib.hid (Z1.out.below q Z1.out.lt)
    have X2 := Lib.hid (X1.out.below q)
    clear q
    have HG := Lib.hid Z2.out.lt
    obtain ⟨G, hG⟩ : ∃ G, w2.heap.size = G := ⟨_, rfl⟩
    go_wp2_with fail
    have Q3 := Lib.hid (Q2.out.alloc (Nat.le_of_lt HG.out) (.cells #[.int .i64 y, .int .i64 m, .int .i64 d, .int .i64 h, .int .i64 i, .int .i64 s] 23))
    have Z3 := Lib.hid (Z2.out.alloc (.cells #[.int .i64 y, .int .i64 m, .int .i64 d, .int .i64 h, .int .i64 i, .int .i64 s] 23))
    have X3 := Lib.hid (X2.out.alloc (.cells #[.int .i64 y, .int .i64 m, .int .i64 d, .int .i64 h, .int .i64 i, .int .i64 s] 23))
    have K3 : Hid (Blk (w2.alloc (.cells #[.int .i64 y, .int .i64 m, .int .i64 d, .int .i64 h, .int .i64 i, .int .i64 s] 23)) G 23 #[.int .i64 y, .int .i64 m, .int .i64 d, .int .i64 h, .int .i64 i, .int .i64 s]) := by rw [← hG]; exact Blk.new _ _ _
    generalize w2.alloc (.cells #[.int .i64 y, .int .i64 m, .int .i64 d, .int .i64 h, .int .i64 i, .int .i64 s] 23) = w3 at *
    with_reducible refine (E0.out _).mono ?_
    rintro e w4 ⟨a4, c4, rfl, ho, q⟩
    have Q4 : Hid (Below H w w4) := by rw [← hH]; exact bthen (by rw [hH]; exact Q3.out) q
    have Z4 := Lib.hid (Z3.out.below q Z3.out.lt)
    have X4 := Lib.hid (X3.out.below q)
    have K4 := Lib.hid (K3.out.below q K3.out.lt)
    have O4 := Lib.hid ho
    clear q ho hG
    obtain ⟨z0, z1, z2, z3, z4, z5⟩ := Z4.out.cells6
    have zl := Z4.out.lt
    have zf := Z4.out.frozen
    obtain ⟨k0, k1, k2, k3, k4, k5⟩ := K4.out.cells6
    by_cases he : e2 = 0
    · subst he
      rcases hq : eqB L l with _ | _
      · obtain rfl : R = (tm0, 6) := by have e := HR.out; rw [hq] at e; exact e.symm.trans (if_neg (by simp))
        rw [hq] at HB
        have ZF := Lib.hid (Z4.out.six (.int .i64 0) (.int .i64 0) (.int .i64 0) (.int .i64 0) (.int .i64 0) (.int .i64 0))
        have QF := Lib.hid (below_six Q4.out (Nat.le_refl H) (.int .i64 0) (.int .i64 0) (.int .i64 0) (.int .i64 0) (.int .i64 0) (.int .i64 0))
        go_wp2_with fail
        with_reducible refine (HB.out _ _ _ O4.out X4.out).mono ?_
        rintro e w4 ⟨rfl, rfl⟩
        go_wp2_with fail
        obtain ⟨y0, y1, y2, y3, y4, y5⟩ := ZF.out.cells6
        have q := QF.out
        generalize (((((w4.setCell ⟨H, 0, none⟩ (.int .i64 0)).setCell ⟨H, 1, none⟩ (.int .i64 0)).setCell ⟨H, 2, none⟩ (.int .i64 0)).setCell ⟨H, 3, none⟩ (.int .i64 0)).setCell ⟨H, 4, none⟩ (.int .i64 0)).setCell ⟨H, 5, none⟩ (.int .i64 0) = w9 at *
        exact bodyPost_ret (v := .tuple #[.agg #[.int .i64 0, .int .i64 0, .int .i64 0, .int .i64 0, .int .i64 0, .int .i64 0], .int .i64 6]) (by simp [results, Tryd.results18, go_sem, y0, y1, y2, y3, y4, y5]) rfl ⟨rfl, by first | exact q | (rw [hH]; exact q)⟩
      · obtain rfl : R = (⟨y, m, d, h, i, s⟩, 0) := by have e := HR.out; rw [hq] at e; exact e.symm.trans (if_pos ⟨rfl, rfl⟩)
        rw [hq] at HB
        have ZF := Lib.hid (Z4.out.six (.int .i64 y) (.int .i64 m) (.int .i64 d) (.int .i64 h) (.int .i64 i) (.int .i64 s))
        have QF := Lib.hid (below_six Q4.out (Nat.le_refl H) (.int .i64 y) (.int .i64 m) (.int .i64 d) (.int .i64 h) (.int .i64 i) (.int .i64 s))
        go_wp2_with fail
        with_reducible refine (HB.out _ _ _ O4.out X4.out).mono ?_
        rintro e w4 ⟨rfl, rfl⟩
        go_wp2_with fail
        obtain ⟨y0, y1, y2, y3, y4, y5⟩ := ZF.out.cells6
        have q := QF.out
        generalize (((((w4.setCell ⟨H, 0, none⟩ (.int .i64 y)).setCell ⟨H, 1, none⟩ (.int .i64 m)).setCell ⟨H, 2, none⟩ (.int .i64 d)).setCell ⟨H, 3, none⟩ (.int .i64 h)).setCell ⟨H, 4, none⟩ (.int .i64 i)).setCell ⟨H, 5, none⟩ (.int .i64 s) = w9 at *
        exact bodyPost_ret (v := .tuple #[.agg #[.int .i64 y, .int .i64 m, .int .i64 d, .int .i64 h, .int .i64 i, .int .i64 s], .int .i64 0]) (by simp [results, Tryd.results18, go_sem, y0, y1, y2, y3, y4, y5]) rfl ⟨rfl, by first | exact q | (rw [hH]; exact q)⟩
    · obtain rfl : R = (tm0, 6) := HR.out.symm.trans (if_neg (fun h => he h.1))
      have he2 : (e2 == 0) = false := by rw [beq_eq_false_iff_ne]; exact he
      have ZF := Lib.hid (Z4.out.six (.int .i64 0) (.int .i64 0) (.int .i64 0) (.int .i64 0) (.int .i64 0) (.int .i64 0))
      have QF := Lib.hid (below_six Q4.out (Nat.le_refl H) (.int .i64 0) (.int .i64 0) (.int .i64 0) (.int .i64 0) (.int .i64 0) (.int .i64 0))
      go_wp2_with fail
      obtain ⟨y0, y1, y2, y3, y4, y5⟩ := ZF.out.cells6
      have q := QF.out
      generalize (((((w4.setCell ⟨H, 0, none⟩ (.int .i64 0)).setCell ⟨H, 1, none⟩ (.int .i64 0)).setCell ⟨H, 2, none⟩ (.int .i64 0)).setCell ⟨H, 3, none⟩ (.int .i64 0)).setCell ⟨H, 4, none⟩ (.int .i64 0)).setCell ⟨H, 5, none⟩ (.int .i64 0) = w9 at *
      exact bodyPost_ret (v := .tuple #[.agg #[.int .i64 0, .int .i64 0, .int .i64 0, .int .i64 0, .int .i64 0, .int .i64 0], .int .i64 6]) (by simp [results, Tryd.results18, go_sem, y0, y1, y2, y3, y4, y5]) rfl ⟨rfl, by first | exact q | (rw [hH]; exact q)⟩
  · rw [if_neg hy] at F0
    go_enter Tryd.func18, Tryd.ntmps18
    go_wp2_with fail
    have Q1 : Hid (Below H w (w.alloc (.cells #[.int .i64 0, .int .i64 0, .int .i64 0, .int .i64 0, .int .i64 0, .int .i64 0] 23))) := by rw [← hH]; exact bal (Below.refl _ _) _
    have Z1 : Hid (Blk (w.alloc (.cells #[.int .i64 0, .int .i64 0, .int .i64 0, .int .i64 0, .int .i64 0, .int .i64 0] 23)) H 23 #[.int .i64 0, .int .i64 0, .int .i64 0, .int .i64 0, .int .i64 0, .int .i64 0]) := by rw [← hH]; exact Blk.new _ _ _
    have X1 := Lib.hid (X0.out.alloc (.cells #[.int .i64 0, .int .i64 0, .int .i64 0, .int .i64 0, .int .i64 0, .int .i64 0] 23))
    generalize w.alloc (.cells #[.int .i64 0, .int .i64 0, .int .i64 0, .int .i64 0, .int .i64 0, .int .i64 0] 23) = w1 at *
    with_reducible refine (N0.out _ X1.out).mono ?_
    rintro e w1 ⟨rfl, rfl⟩
    go_wp2_with fail
    with_reducible refine (F0.out _ X1.out).mono ?_
    rintro e w2 ⟨rfl, q⟩
    have Q2 : Hid (Below H w w2) := by rw [← hH]; exact bthen (by rw [hH]; exact Q1.out) q
    have Z2 := Lib.hid (Z1.out.below q Z1.out.lt)
    have X2 := Lib.hid (X1.out.below q)
    clear q
    have HG := Lib.hid Z2.out.lt
    obtain ⟨G, hG⟩ : ∃ G, w2.heap.size = G := ⟨_, rfl⟩
    go_wp2_with fail
    have Q3 := Lib.hid (Q2.out.alloc (Nat.le_of_lt HG.out) (.cells #[.int .i64 y, .int .i64 m, .int .i64 d, .int .i64 h, .int .i64 i, .int .i64 s] 23))
    have Z3 := Lib.hid (Z2.out.alloc (.cells #[.int .i64 y, .int .i64 m, .int .i64 d, .int .i64 h, .int .i64 i, .int .i64 s] 23))
    have X3 := Lib.hid (X2.out.alloc (.cells #[.int .i64 y, .int .i64 m, .int .i64 d, .int .i64 h, .int .i64 i, .int .i64 s] 23))
    have K3 : Hid (Blk (w2.alloc (.cells #[.int .i64 y, .int .i64 m, .int .i64 d, .int .i64 h, .int .i64 i, .int .i64 s] 23)) G 23 #[.int .i64 y, .int .i64 m, .int .i64 d, .int .i64 h, .int .i64 i, .int .i64 s]) := by rw [← hG]; exact Blk.new _ _ _
    generalize w2.alloc (.cells #[.int .i64 y, .int .i64 m, .int .i64 d, .int .i64 h, .int .i64 i, .int .i64 s] 23) = w3 at *
    with_reducible refine (E0.out _).mono ?_
    rintro e w4 ⟨a4, c4, rfl, ho, q⟩
    have Q4 : Hid (Below H w w4) := by rw [← hH]; exact bthen (by rw [hH]; exact Q3.out) q
    have Z4 := Lib.hid (Z3.out.below q Z3.out.lt)
    have X4 := Lib.hid (X3.out.below q)
    have K4 := Lib.hid (K3.out.below q K3.out.lt)
    have O4 := Lib.hid ho
    clear q ho hG
    obtain ⟨z0, z1, z2, z3, z4, z5⟩ := Z4.out.cells6
    have zl := Z4.out.lt
    have zf := Z4.out.frozen
    obtain ⟨k0, k1, k2, k3, k4, k5⟩ := K4.out.cells6
    by_cases he : e2 = 0
    · subst he
      rcases hq : eqB L l with _ | _
      · obtain rfl : R = (tm0, 6) := by have e := HR.out; rw [hq] at e; exact e.symm.trans (if_neg (by simp))
        rw [hq] at HB
        have ZF := Lib.hid (Z4.out.six (.int .i64 0) (.int .i64 0) (.int .i64 0) (.int .i64 0) (.int .i64 0) (.int .i64 0))
        have QF := Lib.hid (below_six Q4.out (Nat.le_refl H) (.int .i64 0) (.int .i64 0) (.int .i64 0) (.int .i64 0) (.int .i64 0) (.int .i64 0))
        go_wp2_with fail
        with_reducible refine (HB.out _ _ _ O4.out X4.out).mono ?_
        rintro e w4 ⟨rfl, rfl⟩
        go_wp2_with fail
        obtain ⟨y0, y1, y2, y3, y4, y5⟩ := ZF.out.cells6
        have q := QF.out
        generalize (((((w4.setCell ⟨H, 0, none⟩ (.int .i64 0)).setCell ⟨H, 1, none⟩ (.int .i64 0)).setCell ⟨H, 2, none⟩ (.int .i64 0)).setCell ⟨H, 3, none⟩ (.int .i64 0)).setCell ⟨H, 4, none⟩ (.int .i64 0)).setCell ⟨H, 5, none⟩ (.int .i64 0) = w9 at *
        exact bodyPost_ret (v := .tuple #[.agg #[.int .i64 0, .int .i64 0, .int .i64 0, .int .i64 0, .int .i64 0, .int .i64 0], .int .i64 6]) (by simp [results, Tryd.results18, go_sem, y0, y1, y2, y3, y4, y5]) rfl ⟨rfl, by first | exact q | (rw [hH]; exact q)⟩
      · obtain rfl : R = (⟨y, m, d, h, i, s⟩, 0) := by have e := HR.out; rw [hq] at e; exact e.symm.trans (if_pos ⟨rfl, rfl⟩)
        rw [hq] at HB
        have ZF := Lib.hid (Z4.out.six (.int .i64 y) (.int .i64 m) (.int .i64 d) (.int .i64 h) (.int .i64 i) (.int .i64 s))
        have QF := Lib.hid (below_six Q4.out (Nat.le_refl H) (.int .i64 y) (.int .i64 m) (.int .i64 d) (.int .i64 h) (.int .i64 i) (.int .i64 s))
        go_wp2_with fail
        with_reducible refine (HB.out _ _ _ O4.out X4.out).mono ?_
        rintro e w4 ⟨rfl, rfl⟩
        go_wp2_with fail
        obtain ⟨y0, y1, y2, y3, y4, y5⟩ := ZF.out.cells6
        have q := QF.out
        generalize (((((w4.setCell ⟨H, 0, none⟩ (.int .i64 y)).setCell ⟨H, 1, none⟩ (.int .i64 m)).setCell ⟨H, 2, none⟩ (.int .i64 d)).setCell ⟨H, 3, none⟩ (.int .i64 h)).setCell ⟨H, 4, none⟩ (.int .i64 i)).setCell ⟨H, 5, none⟩ (.int .i64 s) = w9 at *
        exact bodyPost_ret (v := .tuple #[.agg #[.int .i64 y, .int .i64 m, .int .i64 d, .int .i64 h, .int .i64 i, .int .i64 s], .int .i64 0]) (by simp [results, Tryd.results18, go_sem, y0, y1, y2, y3, y4, y5]) rfl ⟨rfl, by first | exact q | (rw [hH]; exact q)⟩
    · obtain rfl : R = (tm0, 6) := HR.out.symm.trans (if_neg (fun h => he h.1))
      have he2 : (e2 == 0) = false := by rw [beq_eq_false_iff_ne]; exact he
      have ZF := Lib.hid (Z4.out.six (.int .i64 0) (.int .i64 0) (.int .i64 0) (.int .i64 0) (.int .i64 0) (.int .i64 0))
      have QF := Lib.hid (below_six Q4.out (Nat.le_refl H) (.int .i64 0) (.int .i64 0) (.int .i64 0) (.int .i64 0) (.int .i64 0) (.int .i64 0))
      go_wp2_with fail
      obtain ⟨y0, y1, y2, y3, y4, y5⟩ := ZF.out.cells6
      have q := QF.out
      generalize (((((w4.setCell ⟨H, 0, none⟩ (.int .i64 0)).setCell ⟨H, 1, none⟩ (.int .i64 0)).setCell ⟨H, 2, none⟩ (.int .i64 0)).setCell ⟨H, 3, none⟩ (.int .i64 0)).setCell ⟨H, 4, none⟩ (.int .i64 0)).setCell ⟨H, 5, none⟩ (.int .i64 0) = w9 at *
      exact bodyPost_ret (v := .tuple #[.agg #[.int .i64 0, .int .i64 0, .int .i64 0, .int .i64 0, .int .i64 0, .int .i64 0], .int .i64 6]) (by simp [results, Tryd.results18, go_sem, y0, y1, y2, y3, y4, y5]) rfl ⟨rfl, by first | exact q | (rw [hH]; exact q)⟩
end Go.Proofs.YtneeddbonhiflaaDoor
