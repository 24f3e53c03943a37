/-
  Contracts of the reference's EncodeUTC and EncodeGeneral.
-/
import Derived.Test.YtneeddbonhiflaaDoorClTail
import Derived.Test.YtneeddbonhiflaaDoorClConv
import Derived.Deep.RegionHeld3
import Derived.BigRegion
namespace Go.Proofs.YtneeddbonhiflaaDoor
open Go.RowKit

def utcL (t : Tm) : List UInt8 := digO t.y 2 ++ tailO t
def genL (t : Tm) : List UInt8 := digO t.y 4 ++ tailO t
theorem utcL_len (t : Tm) : (utcL t).length = 13 := by unfold utcL; rw [List.length_append, digO_len, tailO_len]
theorem genL_len (t : Tm) : (genL t).length = 15 := by unfold genL; rw [List.length_append, digO_len, tailO_len]
/-- a UTCTime's contents octets, and the code -/
def utcE (t : Tm) : List UInt8 × Int := if okT t = true then (if t.y < 1950 ∨ 2049 < t.y then ([], 9) else (utcL t, 0)) else ([], 8)
/-- a GeneralizedTime's contents octets, and the code -/
def genE (t : Tm) : List UInt8 × Int := if okT t = true then (genL t, 0) else ([], 8)
theorem Blk.cells6 {w : World} {g : Nat} {t : TypeId} {a b c d e f : Value} (h : Blk w g t #[a, b, c, d, e, f]) : w.cell? ⟨g, 0, none⟩ = some a ∧ w.cell? ⟨g, 1, none⟩ = some b ∧ w.cell? ⟨g, 2, none⟩ = some c ∧ w.cell? ⟨g, 3, none⟩ = some d ∧ w.cell? ⟨g, 4, none⟩ = some e ∧ w.cell? ⟨g, 5, none⟩ = some f :=
  ⟨by simpa using h.cell 0, by simpa using h.cell 1, by simpa using h.cell 2, by simpa using h.cell 3, by simpa using h.cell 4, by simpa using h.cell 5⟩
theorem okT_bounds {t : Tm} (h : okT t = true) : (0 ≤ t.y ∧ t.y ≤ 9999) ∧ (1 ≤ t.m ∧ t.m ≤ 12) ∧ (1 ≤ t.d ∧ t.d ≤ 31) ∧ (0 ≤ t.h ∧ t.h ≤ 23) ∧ (0 ≤ t.i ∧ t.i ≤ 59) ∧ (0 ≤ t.s ∧ t.s ≤ 59) := by
  obtain ⟨h1, h2, h3, h4⟩ := okT_iff.1 h
  have h5 := dys_le t.y t.m
  have h6 := dys_in (y := t.y) (m := t.m) (by omega)
  exact ⟨h6.1, h6.2, ⟨h1.1, by omega⟩, h2, h3, h4⟩

set_option maxRecDepth 100000 in
set_option maxHeartbeats 4000000 in
theorem utc_no (y m d h i s : Int) (hok : okT ⟨y, m, d, h, i, s⟩ = false) (w : World) :
    Calls Tryd.prog 10 #[.agg #[.int .i64 y, .int .i64 m, .int .i64 d, .int .i64 h, .int .i64 i, .int .i64 s]] w fun e w' => ∃ a c, e = .returned (.tuple #[.slice a 0 c, .int .i64 8]) ∧ Bs w' a 0 c [] ∧ Below w.heap.size w w' := by
  have HV := Lib.hid (fun w => cvalid_any ⟨y, m, d, h, i, s⟩ w)
  unfold tmV at HV
  rw [hok] at HV
  clear hok
  dsimp only at HV
  obtain ⟨A, hA⟩ : ∃ A, w.heap.size = A := ⟨_, rfl⟩
  have Z1 := Lib.hid (Blk.new w 23 #[.int .i64 y, .int .i64 m, .int .i64 d, .int .i64 h, .int .i64 i, .int .i64 s])
  rw [hA] at Z1
  have Q1 := Lib.hid (bal (Below.refl w.heap.size w) (.cells #[.int .i64 y, .int .i64 m, .int .i64 d, .int .i64 h, .int .i64 i, .int .i64 s] 23))
  go_enter Tryd.func10, Tryd.ntmps10
  go_wp2_with fail
  generalize w.alloc (.cells #[.int .i64 y, .int .i64 m, .int .i64 d, .int .i64 h, .int .i64 i, .int .i64 s] 23) = w1 at *
  obtain ⟨z0, z1, z2, z3, z4, z5⟩ := Z1.out.cells6
  go_wp2_with fail
  with_reducible refine (HV.out _).mono ?_
  rintro e w2 ⟨rfl, q⟩
  have Q2 := Lib.hid (bthen Q1.out q)
  have Z2 := Lib.hid (Z1.out.below q Z1.out.lt)
  clear q z0 z1 z2 z3 z4 z5
  obtain ⟨z0, z1, z2, z3, z4, z5⟩ := Z2.out.cells6
  go_wp2_with fail
  go_ret2
  exact ⟨none, 0, rfl, Bs.nil_ _, Q2.out⟩

set_option maxRecDepth 100000 in
set_option maxHeartbeats 4000000 in
theorem utc_lo (y m d h i s : Int) (hok : okT ⟨y, m, d, h, i, s⟩ = true) (hy1 : y < 1950) (w : World) :
    Calls Tryd.prog 10 #[.agg #[.int .i64 y, .int .i64 m, .int .i64 d, .int .i64 h, .int .i64 i, .int .i64 s]] w fun e w' => ∃ a c, e = .returned (.tuple #[.slice a 0 c, .int .i64 9]) ∧ Bs w' a 0 c [] ∧ Below w.heap.size w w' := by
  have HV := Lib.hid (fun w => cvalid_any ⟨y, m, d, h, i, s⟩ w)
  unfold tmV at HV
  rw [hok] at HV
  clear hok
  dsimp only at HV
  obtain ⟨A, hA⟩ : ∃ A, w.heap.size = A := ⟨_, rfl⟩
  have Z1 := Lib.hid (Blk.new w 23 #[.int .i64 y, .int .i64 m, .int .i64 d, .int .i64 h, .int .i64 i, .int .i64 s])
  rw [hA] at Z1
  have Q1 := Lib.hid (bal (Below.refl w.heap.size w) (.cells #[.int .i64 y, .int .i64 m, .int .i64 d, .int .i64 h, .int .i64 i, .int .i64 s] 23))
  go_enter Tryd.func10, Tryd.ntmps10
  go_wp2_with fail
  generalize w.alloc (.cells #[.int .i64 y, .int .i64 m, .int .i64 d, .int .i64 h, .int .i64 i, .int .i64 s] 23) = w1 at *
  obtain ⟨z0, z1, z2, z3, z4, z5⟩ := Z1.out.cells6
  go_wp2_with fail
  with_reducible refine (HV.out _).mono ?_
  rintro e w2 ⟨rfl, q⟩
  have Q2 := Lib.hid (bthen Q1.out q)
  have Z2 := Lib.hid (Z1.out.below q Z1.out.lt)
  clear q z0 z1 z2 z3 z4 z5
  obtain ⟨z0, z1, z2, z3, z4, z5⟩ := Z2.out.cells6
  go_wp2_with fail
  go_ret2
  exact ⟨none, 0, rfl, Bs.nil_ _, Q2.out⟩

set_option maxRecDepth 100000 in
set_option maxHeartbeats 4000000 in
theorem utc_hi (y m d h i s : Int) (hok : okT ⟨y, m, d, h, i, s⟩ = true) (hy1 : ¬ y < 1950) (hy2 : 2049 < y) (w : World) :
    Calls Tryd.prog 10 #[.agg #[.int .i64 y, .int .i64 m, .int .i64 d, .int .i64 h, .int .i64 i, .int .i64 s]] w fun e w' => ∃ a c, e = .returned (.tuple #[.slice a 0 c, .int .i64 9]) ∧ Bs w' a 0 c [] ∧ Below w.heap.size w w' := by
  have HV := Lib.hid (fun w => cvalid_any ⟨y, m, d, h, i, s⟩ w)
  unfold tmV at HV
  rw [hok] at HV
  clear hok
  dsimp only at HV
  obtain ⟨A, hA⟩ : ∃ A, w.heap.size = A := ⟨_, rfl⟩
  have Z1 := Lib.hid (Blk.new w 23 #[.int .i64 y, .int .i64 m, .int .i64 d, .int .i64 h, .int .i64 i, .int .i64 s])
  rw [hA] at Z1
  have Q1 := Lib.hid (bal (Below.refl w.heap.size w) (.cells #[.int .i64 y, .int .i64 m, .int .i64 d, .int .i64 h, .int .i64 i, .int .i64 s] 23))
  go_enter Tryd.func10, Tryd.ntmps10
  go_wp2_with fail
  generalize w.alloc (.cells #[.int .i64 y, .int .i64 m, .int .i64 d, .int .i64 h, .int .i64 i, .int .i64 s] 23) = w1 at *
  obtain ⟨z0, z1, z2, z3, z4, z5⟩ := Z1.out.cells6
  go_wp2_with fail
  with_reducible refine (HV.out _).mono ?_
  rintro e w2 ⟨rfl, q⟩
  have Q2 := Lib.hid (bthen Q1.out q)
  have Z2 := Lib.hid (Z1.out.below q Z1.out.lt)
  clear q z0 z1 z2 z3 z4 z5
  obtain ⟨z0, z1, z2, z3, z4, z5⟩ := Z2.out.cells6
  go_wp2_with fail
  go_ret2
  exact ⟨none, 0, rfl, Bs.nil_ _, Q2.out⟩

set_option maxRecDepth 100000 in
set_option maxHeartbeats 8000000 in
theorem utc_yes (y m d h i s : Int) (hok : okT ⟨y, m, d, h, i, s⟩ = true) (hy1 : ¬ y < 1950) (hy2 : ¬ 2049 < y) (w : World) :
    Calls Tryd.prog 10 #[.agg #[.int .i64 y, .int .i64 m, .int .i64 d, .int .i64 h, .int .i64 i, .int .i64 s]] w fun e w' => ∃ a c, e = .returned (.tuple #[.slice a 13 c, .int .i64 0]) ∧ Bs w' a 13 c (utcL ⟨y, m, d, h, i, s⟩) ∧ Below w.heap.size w w' := by
  have HV := Lib.hid (fun w => cvalid_any ⟨y, m, d, h, i, s⟩ w)
  have hb := okT_bounds hok
  have hlen := utcL_len ⟨y, m, d, h, i, s⟩
  have HT := Lib.hid (fun w => tail_any ⟨y, m, d, h, i, s⟩ (by dsimp only at hb ⊢; omega) (by dsimp only at hb ⊢; omega) (by dsimp only at hb ⊢; omega) (by dsimp only at hb ⊢; omega) (by dsimp only at hb ⊢; omega) w)
  have HD : Hid (∀ w, Calls Tryd.prog 28 #[.int .i64 y, .int .i64 2] w fun e w' => e = .returned (.string ⟨(digO y 2).toArray⟩) ∧ ∃ k, w' = w.drewN k) := Lib.hid fun w => digits_any 2 y w (by dsimp only at hb ⊢; omega) (by dsimp only at hb ⊢; omega) (by omega)
  have HJ : (⟨(digO y 2).toArray⟩ : ByteArray) ++ ⟨(tailO ⟨y, m, d, h, i, s⟩).toArray⟩ = ⟨(utcL ⟨y, m, d, h, i, s⟩).toArray⟩ := by rw [str_join]; rfl
  have s1 : (⟨(digO y 2).toArray⟩ : ByteArray).size = 2 := by rw [str_sz, digO_len]
  have s2 : (⟨(tailO ⟨y, m, d, h, i, s⟩).toArray⟩ : ByteArray).size = 11 := by rw [str_sz, tailO_len]
  obtain ⟨fa, fc, fw, hcv⟩ := conv_any (utcL ⟨y, m, d, h, i, s⟩) (by omega)
  have HC2 := Lib.hid (fun v => (hcv v).2)
  have hcv1 := fun v => (hcv v).1
  rw [hlen] at hcv1 HC2
  rw [← HJ] at hcv1
  clear hcv hlen hb
  unfold tmV at HV HT
  rw [hok] at HV
  clear hok
  dsimp only at HV HT
  generalize utcL ⟨y, m, d, h, i, s⟩ = R at *
  generalize (⟨(digO y 2).toArray⟩ : ByteArray) = S1 at *
  generalize (⟨(tailO ⟨y, m, d, h, i, s⟩).toArray⟩ : ByteArray) = S2 at *
  clear HJ
  obtain ⟨A, hA⟩ : ∃ A, w.heap.size = A := ⟨_, rfl⟩
  have Z1 := Lib.hid (Blk.new w 23 #[.int .i64 y, .int .i64 m, .int .i64 d, .int .i64 h, .int .i64 i, .int .i64 s])
  rw [hA] at Z1
  have Q1 := Lib.hid (bal (Below.refl w.heap.size w) (.cells #[.int .i64 y, .int .i64 m, .int .i64 d, .int .i64 h, .int .i64 i, .int .i64 s] 23))
  go_enter Tryd.func10, Tryd.ntmps10
  go_wp2_with fail
  generalize w.alloc (.cells #[.int .i64 y, .int .i64 m, .int .i64 d, .int .i64 h, .int .i64 i, .int .i64 s] 23) = w1 at *
  obtain ⟨z0, z1, z2, z3, z4, z5⟩ := Z1.out.cells6
  go_wp2_with fail
  with_reducible refine (HV.out _).mono ?_
  rintro e w2 ⟨rfl, q⟩
  have Q2 := Lib.hid (bthen Q1.out q)
  have Z2 := Lib.hid (Z1.out.below q Z1.out.lt)
  clear q z0 z1 z2 z3 z4 z5
  obtain ⟨z0, z1, z2, z3, z4, z5⟩ := Z2.out.cells6
  go_wp2_with fail
  go_region_with
    (first
     | (go_at_call 28; (with_reducible refine (HD.out _).mono ?_); rintro e w3 ⟨rfl, k3, hk3⟩; first | (have Z4 : Hid (Blk w3 A 23 #[.int .i64 y, .int .i64 m, .int .i64 d, .int .i64 h, .int .i64 i, .int .i64 s]) := (by rw [hk3]; exact Z3.out.drewN _); have Q4 : Hid (Below w.heap.size w w3) := (by rw [hk3]; exact below_drewN Q3.out _); clear hk3; obtain ⟨x0, x1, x2, x3, x4, x5⟩ := Z4.out.cells6) | (have Z3 : Hid (Blk w3 A 23 #[.int .i64 y, .int .i64 m, .int .i64 d, .int .i64 h, .int .i64 i, .int .i64 s]) := (by rw [hk3]; exact (Z2.out.drewN 1).drewN _); have Q3 : Hid (Below w.heap.size w w3) := (by rw [hk3]; exact below_drewN (below_drewN Q2.out 1) _); clear hk3; obtain ⟨y0, y1, y2, y3, y4, y5⟩ := Z3.out.cells6))
     | (go_at_call 29; (with_reducible refine (HT.out _).mono ?_); rintro e w4 ⟨rfl, q⟩; first | (have Z4 := Lib.hid (Z3.out.below q Z3.out.lt); have Q4 := Lib.hid (bthen Q3.out q); clear q; obtain ⟨x0, x1, x2, x3, x4, x5⟩ := Z4.out.cells6) | (have Z3 := Lib.hid ((Z2.out.drewN 1).below q (Z2.out.drewN 1).lt); have Q3 := Lib.hid (bthen (below_drewN Q2.out 1) q); clear q; obtain ⟨y0, y1, y2, y3, y4, y5⟩ := Z3.out.cells6)))
  all_goals
    go_wp2_with fail
    go_ret2
    exact ⟨_, _, rfl, (HC2.out _).1, bthen Q4.out (HC2.out _).2⟩

set_option maxRecDepth 100000 in
set_option maxHeartbeats 4000000 in
theorem gen_no (y m d h i s : Int) (hok : okT ⟨y, m, d, h, i, s⟩ = false) (w : World) :
    Calls Tryd.prog 12 #[.agg #[.int .i64 y, .int .i64 m, .int .i64 d, .int .i64 h, .int .i64 i, .int .i64 s]] w fun e w' => ∃ a c, e = .returned (.tuple #[.slice a 0 c, .int .i64 8]) ∧ Bs w' a 0 c [] ∧ Below w.heap.size w w' := by
  have HV := Lib.hid (fun w => cvalid_any ⟨y, m, d, h, i, s⟩ w)
  unfold tmV at HV
  rw [hok] at HV
  clear hok
  dsimp only at HV
  obtain ⟨A, hA⟩ : ∃ A, w.heap.size = A := ⟨_, rfl⟩
  have Z1 := Lib.hid (Blk.new w 23 #[.int .i64 y, .int .i64 m, .int .i64 d, .int .i64 h, .int .i64 i, .int .i64 s])
  rw [hA] at Z1
  have Q1 := Lib.hid (bal (Below.refl w.heap.size w) (.cells #[.int .i64 y, .int .i64 m, .int .i64 d, .int .i64 h, .int .i64 i, .int .i64 s] 23))
  go_enter Tryd.func12, Tryd.ntmps12
  go_wp2_with fail
  generalize w.alloc (.cells #[.int .i64 y, .int .i64 m, .int .i64 d, .int .i64 h, .int .i64 i, .int .i64 s] 23) = w1 at *
  obtain ⟨z0, z1, z2, z3, z4, z5⟩ := Z1.out.cells6
  go_wp2_with fail
  with_reducible refine (HV.out _).mono ?_
  rintro e w2 ⟨rfl, q⟩
  have Q2 := Lib.hid (bthen Q1.out q)
  have Z2 := Lib.hid (Z1.out.below q Z1.out.lt)
  clear q z0 z1 z2 z3 z4 z5
  obtain ⟨z0, z1, z2, z3, z4, z5⟩ := Z2.out.cells6
  go_wp2_with fail
  go_ret2
  exact ⟨none, 0, rfl, Bs.nil_ _, Q2.out⟩

set_option maxRecDepth 100000 in
set_option maxHeartbeats 8000000 in
theorem gen_yes (y m d h i s : Int) (hok : okT ⟨y, m, d, h, i, s⟩ = true) (w : World) :
    Calls Tryd.prog 12 #[.agg #[.int .i64 y, .int .i64 m, .int .i64 d, .int .i64 h, .int .i64 i, .int .i64 s]] w fun e w' => ∃ a c, e = .returned (.tuple #[.slice a 15 c, .int .i64 0]) ∧ Bs w' a 15 c (genL ⟨y, m, d, h, i, s⟩) ∧ Below w.heap.size w w' := by
  have HV := Lib.hid (fun w => cvalid_any ⟨y, m, d, h, i, s⟩ w)
  have hb := okT_bounds hok
  have hlen := genL_len ⟨y, m, d, h, i, s⟩
  have HT := Lib.hid (fun w => tail_any ⟨y, m, d, h, i, s⟩ (by dsimp only at hb ⊢; omega) (by dsimp only at hb ⊢; omega) (by dsimp only at hb ⊢; omega) (by dsimp only at hb ⊢; omega) (by dsimp only at hb ⊢; omega) w)
  have HD : Hid (∀ w, Calls Tryd.prog 28 #[.int .i64 y, .int .i64 4] w fun e w' => e = .returned (.string ⟨(digO y 4).toArray⟩) ∧ ∃ k, w' = w.drewN k) := Lib.hid fun w => digits_any 4 y w (by dsimp only at hb ⊢; omega) (by dsimp only at hb ⊢; omega) (by omega)
  have HJ : (⟨(digO y 4).toArray⟩ : ByteArray) ++ ⟨(tailO ⟨y, m, d, h, i, s⟩).toArray⟩ = ⟨(genL ⟨y, m, d, h, i, s⟩).toArray⟩ := by rw [str_join]; rfl
  have s1 : (⟨(digO y 4).toArray⟩ : ByteArray).size = 4 := by rw [str_sz, digO_len]
  have s2 : (⟨(tailO ⟨y, m, d, h, i, s⟩).toArray⟩ : ByteArray).size = 11 := by rw [str_sz, tailO_len]
  obtain ⟨fa, fc, fw, hcv⟩ := conv_any (genL ⟨y, m, d, h, i, s⟩) (by omega)
  have HC2 := Lib.hid (fun v => (hcv v).2)
  have hcv1 := fun v => (hcv v).1
  rw [hlen] at hcv1 HC2
  rw [← HJ] at hcv1
  clear hcv hlen hb
  unfold tmV at HV HT
  rw [hok] at HV
  clear hok
  dsimp only at HV HT
  generalize genL ⟨y, m, d, h, i, s⟩ = R at *
  generalize (⟨(digO y 4).toArray⟩ : ByteArray) = S1 at *
  generalize (⟨(tailO ⟨y, m, d, h, i, s⟩).toArray⟩ : ByteArray) = S2 at *
  clear HJ
  obtain ⟨A, hA⟩ : ∃ A, w.heap.size = A := ⟨_, rfl⟩
  have Z1 := Lib.hid (Blk.new w 23 #[.int .i64 y, .int .i64 m, .int .i64 d, .int .i64 h, .int .i64 i, .int .i64 s])
  rw [hA] at Z1
  have Q1 := Lib.hid (bal (Below.refl w.heap.size w) (.cells #[.int .i64 y, .int .i64 m, .int .i64 d, .int .i64 h, .int .i64 i, .int .i64 s] 23))
  go_enter Tryd.func12, Tryd.ntmps12
  go_wp2_with fail
  generalize w.alloc (.cells #[.int .i64 y, .int .i64 m, .int .i64 d, .int .i64 h, .int .i64 i, .int .i64 s] 23) = w1 at *
  obtain ⟨z0, z1, z2, z3, z4, z5⟩ := Z1.out.cells6
  go_wp2_with fail
  with_reducible refine (HV.out _).mono ?_
  rintro e w2 ⟨rfl, q⟩
  have Q2 := Lib.hid (bthen Q1.out q)
  have Z2 := Lib.hid (Z1.out.below q Z1.out.lt)
  clear q z0 z1 z2 z3 z4 z5
  obtain ⟨z0, z1, z2, z3, z4, z5⟩ := Z2.out.cells6
  go_wp2_with fail
  go_region_with
    (first
     | (go_at_call 28; (with_reducible refine (HD.out _).mono ?_); rintro e w3 ⟨rfl, k3, hk3⟩; first | (have Z4 : Hid (Blk w3 A 23 #[.int .i64 y, .int .i64 m, .int .i64 d, .int .i64 h, .int .i64 i, .int .i64 s]) := (by rw [hk3]; exact Z3.out.drewN _); have Q4 : Hid (Below w.heap.size w w3) := (by rw [hk3]; exact below_drewN Q3.out _); clear hk3; obtain ⟨x0, x1, x2, x3, x4, x5⟩ := Z4.out.cells6) | (have Z3 : Hid (Blk w3 A 23 #[.int .i64 y, .int .i64 m, .int .i64 d, .int .i64 h, .int .i64 i, .int .i64 s]) := (by rw [hk3]; exact (Z2.out.drewN 1).drewN _); have Q3 : Hid (Below w.heap.size w w3) := (by rw [hk3]; exact below_drewN (below_drewN Q2.out 1) _); clear hk3; obtain ⟨y0, y1, y2, y3, y4, y5⟩ := Z3.out.cells6))
     | (go_at_call 29; (with_reducible refine (HT.out _).mono ?_); rintro e w4 ⟨rfl, q⟩; first | (have Z4 := Lib.hid (Z3.out.below q Z3.out.lt); have Q4 := Lib.hid (bthen Q3.out q); clear q; obtain ⟨x0, x1, x2, x3, x4, x5⟩ := Z4.out.cells6) | (have Z3 := Lib.hid ((Z2.out.drewN 1).below q (Z2.out.drewN 1).lt); have Q3 := Lib.hid (bthen (below_drewN Q2.out 1) q); clear q; obtain ⟨y0, y1, y2, y3, y4, y5⟩ := Z3.out.cells6)))
  all_goals
    go_wp2_with fail
    go_ret2
    exact ⟨_, _, rfl, (HC2.out _).1, bthen Q4.out (HC2.out _).2⟩

theorem utc_any (t : Tm) (w : World) :
    Calls Tryd.prog 10 #[tmV t] w fun e w' => ∃ a c, e = .returned (.tuple #[.slice a (utcE t).1.length c, .int .i64 (utcE t).2]) ∧ Bs w' a (utcE t).1.length c (utcE t).1 ∧ Below w.heap.size w w' := by
  obtain ⟨y, m, d, h, i, s⟩ := t
  unfold utcE
  rcases hok : okT ⟨y, m, d, h, i, s⟩ with _ | _
  · exact utc_no y m d h i s hok w
  · rw [if_pos rfl]
    by_cases h1 : y < 1950
    · rw [if_pos (.inl h1)]
      exact utc_lo y m d h i s hok h1 w
    by_cases h2 : 2049 < y
    · rw [if_pos (.inr h2)]
      exact utc_hi y m d h i s hok h1 h2 w
    rw [if_neg (fun h => h.elim h1 h2)]
    dsimp only
    rw [utcL_len]
    exact utc_yes y m d h i s hok h1 h2 w
theorem gen_any (t : Tm) (w : World) :
    Calls Tryd.prog 12 #[tmV t] w fun e w' => ∃ a c, e = .returned (.tuple #[.slice a (genE t).1.length c, .int .i64 (genE t).2]) ∧ Bs w' a (genE t).1.length c (genE t).1 ∧ Below w.heap.size w w' := by
  obtain ⟨y, m, d, h, i, s⟩ := t
  unfold genE
  rcases hok : okT ⟨y, m, d, h, i, s⟩ with _ | _
  · exact gen_no y m d h i s hok w
  · rw [if_pos rfl]
    dsimp only
    rw [genL_len]
    exact gen_yes y m d h i s hok w
end Go.Proofs.YtneeddbonhiflaaDoor
