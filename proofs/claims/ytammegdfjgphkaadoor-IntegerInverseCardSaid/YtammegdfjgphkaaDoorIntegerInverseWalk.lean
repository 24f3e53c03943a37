/-
  The walk of the law IntegerInverse.
-/
import Derived.Test.YtammegdfjgphkaaDoorIntAwake
namespace Go.Proofs.YtammegdfjgphkaaDoor.integerInverse
open Go.RowKit

theorem back_num (N : Nat) : uC (senc (N : Int)) = 0 ∧ senc (bnum (uL (senc (N : Int))) : Int) = senc (N : Int) := by
  have h1 := senc_valid (N : Int)
  have h2 : hiB (senc (N : Int)) = false := by
    rcases h : hiB (senc (N : Int)) with _ | _
    · rfl
    · have := (sval_nonneg_iff _).2 h
      rw [senc_val] at this
      omega
  obtain ⟨e1, e2⟩ := uns_ok h1 h2
  exact ⟨e1, by rw [e2, unsI_back h1 h2]⟩
theorem uL_len (l : List UInt8) : (uL l).length ≤ l.length := by
  unfold uL
  split
  · match l with
    | [] => exact Nat.le_refl _
    | [x] => exact Nat.le_refl _
    | x :: y :: r =>
      show (if x = 0 then y :: r else x :: y :: r).length ≤ _
      split
      · simp
      · exact Nat.le_refl _
  · simp
theorem stripI_len' : ∀ l : List UInt8, (stripI l).length ≤ l.length
  | [] => Nat.le_refl _
  | [x] => Nat.le_refl _
  | x :: y :: l => by
    rw [stripI]
    split
    · exact Nat.le_refl _
    · have := stripI_len' (y :: l)
      simp only [List.length_cons] at *
      omega
theorem senc_len' (l : List UInt8) : (senc (bnum l : Int)).length ≤ l.length + 1 := by
  rw [← fromU_eq]
  exact stripI_len' (0 :: l)

set_option maxRecDepth 100000 in
set_option maxHeartbeats 4000000 in
theorem walk {w : World} {z : Int} {a : Option Addr} {n c : Nat} {l : List UInt8} (wz : (Lit.int .i64 z).wf = true) (b0 : Bs w a n c l) :
    Calls Tryd.prog 5 #[.int .i64 z, .slice a n c] w fun e w' => e = .returned (.bool true) ∧ Below w.heap.size w w' := by
  obtain ⟨hz1, hz2⟩ := bounds_i64 wz
  have HA := Lib.hid (awakeInt_any)
  have HX := Lib.hid b0
  have hl := b0.len
  clear b0 wz
  by_cases hs : n ≤ 2000
  · have hs' : ¬ (2000 : Int) < n := by omega
    have H1 := Lib.hid (fun w => fromInt_any hz1 hz2 w)
    have H2 := Lib.hid (fun w a c (h : Bs w a (senc z).length c (senc z)) => int_any h)
    rw [intV_ok (senc_valid z) (senc_len hz1 hz2), intB_ok (senc_valid z) (senc_len hz1 hz2), senc_val] at H2
    have H3 := Lib.hid (fun w (h : Bs w a n c l) => fromUnsigned_any h (by omega))
    have hlu := senc_len' l
    have H4 := Lib.hid (fun w a c (h : Bs w a (senc (bnum l : Int)).length c (senc (bnum l : Int))) => unsigned_any h (by omega))
    rw [(back_num (bnum l)).1] at H4
    have hud := uL_len (senc (bnum l : Int))
    have H5 := Lib.hid (fun w a c (h : Bs w a (uL (senc (bnum l : Int))).length c (uL (senc (bnum l : Int)))) => fromUnsigned_any h (by omega))
    rw [(back_num (bnum l)).2] at H5
    have H6 := Lib.hid (fun w => ref_fromInt_any z.natAbs z w (Nat.le_refl _) (Lib.hid ⟨hz1, hz2⟩))
    have H7 := Lib.hid (fun w (h : Bs w a n c l) => ref_fromUnsigned_any h (by omega))
    have H8 := Lib.hid (fun w (h : Bs w a n c l) => int_any h)
    have HI : Hid (intB l = true → senc (intV l) = l ∧ -9223372036854775808 ≤ intV l ∧ intV l ≤ 9223372036854775807) := by
      show _ → _
      intro h
      have hv : vI l = true ∧ l.length ≤ 8 := by simpa [intB] using h
      rw [intV_ok hv.1 hv.2]
      exact ⟨senc_of hv.1, (sval_64 hv.2).1, (sval_64 hv.2).2⟩
    generalize uL (senc (bnum l : Int)) = d at *
    generalize senc (bnum l : Int) = u at *
    generalize senc z = s at *
    generalize intV l = k at *
    generalize intB l = is at *
    clear hlu hud hl
    go_enter Tryd.func5, Tryd.ntmps5
    go_wp2_with fail
    with_reducible refine (HA.out _).mono ?_
    rintro e w1 ⟨rfl, q1⟩
    go_wp2_with fail
    with_reducible refine (H1.out _).mono ?_
    rintro e w2 ⟨a2, c2, rfl, hb2, q2⟩
    have Q2 := Lib.hid (bthen q1 q2)
    have B2 := Lib.hid hb2
    clear q1 q2 hb2
    go_wp2_with fail
    with_reducible refine (H2.out _ _ _ B2.out).mono ?_
    rintro e w3 ⟨rfl, rfl⟩
    go_wp2_with fail
    with_reducible refine (H3.out _ (HX.out.below Q2.out)).mono ?_
    rintro e w4 ⟨a4, c4, rfl, hb4, _, q4⟩
    have Q4 := Lib.hid (bthen Q2.out q4)
    have B4 := Lib.hid (B2.out.below q4)
    have U4 := Lib.hid hb4
    clear q4 hb4 B2 Q2
    go_wp2_with fail
    with_reducible refine (H4.out _ _ _ U4.out).mono ?_
    rintro e w5 ⟨a5, c5, rfl, hb5, _, q5⟩
    have Q5 := Lib.hid (bthen Q4.out q5)
    have B5 := Lib.hid (B4.out.below q5)
    have U5 := Lib.hid (U4.out.below q5)
    have D5 := Lib.hid hb5
    clear q5 hb5 B4 U4 Q4
    go_wp2_with fail
    with_reducible refine (H6.out _).mono ?_
    rintro e w6 ⟨a6, c6, rfl, ho6, q6⟩
    have Q6 := Lib.hid (bthen Q5.out q6)
    have B6 := Lib.hid (B5.out.below q6)
    have U6 := Lib.hid (U5.out.below q6)
    have D6 := Lib.hid (D5.out.below q6)
    have R6 := Lib.hid ho6.bs
    clear q6 ho6 B5 U5 D5 Q5
    go_wp2_with fail
    with_reducible refine (bytes_any B6.out R6.out).mono ?_
    rintro e w7 ⟨rfl, rfl⟩
    rw [eqB_self]
    go_wp2_with fail
    with_reducible refine (H7.out _ (HX.out.below Q6.out)).mono ?_
    rintro e w8 ⟨a8, c8, rfl, hb8, _, q8⟩
    have Q8 := Lib.hid (bthen Q6.out q8)
    have U8 := Lib.hid (U6.out.below q8)
    have D8 := Lib.hid (D6.out.below q8)
    clear q8 B6 U6 D6 R6 Q6
    go_wp2_with fail
    with_reducible refine (bytes_any U8.out hb8).mono ?_
    rintro e w9 ⟨rfl, rfl⟩
    rw [eqB_self]
    clear hb8
    go_wp2_with fail
    with_reducible refine (H5.out _ _ _ D8.out).mono ?_
    rintro e wA ⟨aA, cA, rfl, hbA, _, qA⟩
    have QA := Lib.hid (bthen Q8.out qA)
    have UA := Lib.hid (U8.out.below qA)
    clear qA U8 D8 Q8
    go_wp2_with fail
    with_reducible refine (bytes_any hbA UA.out).mono ?_
    rintro e wB ⟨rfl, rfl⟩
    rw [eqB_self]
    clear hbA UA
    go_wp2_with fail
    with_reducible refine (H8.out _ (HX.out.below QA.out)).mono ?_
    rintro e wC ⟨rfl, rfl⟩
    cases is
    · go_wp2_with fail
      go_ret
      exact ⟨rfl, QA.out⟩
    · obtain ⟨e1, e2, e3⟩ := HI.out rfl
      have H9 := Lib.hid (fun w => fromInt_any e2 e3 w)
      rw [e1] at H9
      clear e1 e2 e3
      go_wp2_with fail
      with_reducible refine (H9.out _).mono ?_
      rintro e wD ⟨aD, cD, rfl, hbD, qD⟩
      go_wp2_with fail
      with_reducible refine (bytes_any hbD (HX.out.below (bthen QA.out qD))).mono ?_
      rintro e wE ⟨rfl, rfl⟩
      rw [eqB_self]
      go_wp2_with fail
      go_ret
      exact ⟨rfl, bthen QA.out qD⟩
  · have hs' : (2000 : Int) < n := by omega
    go_enter Tryd.func5, Tryd.ntmps5
    go_wp2_with fail
    with_reducible refine (HA.out _).mono ?_
    rintro e w1 ⟨rfl, q1⟩
    go_wp2_with fail
    with_reducible refine (HA.out _).mono ?_
    rintro e w2 ⟨rfl, q2⟩
    go_wp2_with fail
    go_ret
    exact ⟨rfl, bthen q1 q2⟩
end Go.Proofs.YtammegdfjgphkaaDoor.integerInverse
