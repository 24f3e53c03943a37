/-
  The walk of the law IntegerOrders.
-/
import Derived.Test.YtammegdfjgphkaaDoorIntAwake
import Derived.Test.YtammegdfjgphkaaDoorIntCmpRef
namespace Go.Proofs.YtammegdfjgphkaaDoor.integerOrders
open Go.RowKit

theorem cmpI_bd (a b : List UInt8) : -1 ≤ cmpI a b ∧ cmpI a b ≤ 1 := by
  unfold cmpI
  split
  · exact sgn_bd _ _
  · omega
theorem cmp_eq {a b : List UInt8} (ha : vI a = true) (hb : vI b = true) : (cmpI a b == 0) = eqB a b := by
  rw [Bool.eq_iff_iff, beq_iff_eq, eqB_iff]
  exact cmpI_zero ha hb
theorem int_order {a b : List UInt8} (h1 : intB a = true) (h2 : intB b = true) : cmpI a b < 0 ↔ intV a < intV b := by
  have ha : vI a = true ∧ a.length ≤ 8 := by simpa [intB] using h1
  have hb : vI b = true ∧ b.length ≤ 8 := by simpa [intB] using h2
  rw [intV_ok ha.1 ha.2, intV_ok hb.1 hb.2]
  exact cmpI_lt ha.1 hb.1

set_option maxRecDepth 200000 in
set_option maxHeartbeats 8000000 in
theorem walk {w : World} {a0 a1 a2 : Option Addr} {n0 c0 n1 c1 n2 c2 : Nat} {l0 l1 l2 : List UInt8} (b0 : Bs w a0 n0 c0 l0) (b1 : Bs w a1 n1 c1 l1) (b2 : Bs w a2 n2 c2 l2) :
    Calls Tryd.prog 6 #[.slice a0 n0 c0, .slice a1 n1 c1, .slice a2 n2 c2] w fun e w' => e = .returned (.bool true) ∧ Below w.heap.size w w' := by
  have HA := Lib.hid (awakeInt_any)
  have HX := Lib.hid b0
  have HY := Lib.hid b1
  have HZ := Lib.hid b2
  clear b0 b1 b2
  by_cases hs : n0 ≤ 500 ∧ n1 ≤ 500 ∧ n2 ≤ 500
  · obtain ⟨s0, s1, s2⟩ := hs
    have s0' : ¬ (500 : Int) < n0 := by omega
    have s1' : ¬ (500 : Int) < n1 := by omega
    have s2' : ¬ (500 : Int) < n2 := by omega
    have H1 := Lib.hid (fun w (h : Bs w a0 n0 c0 l0) (k : Bs w a1 n1 c1 l1) => compareI_any h k)
    have H2 := Lib.hid (fun w (h : Bs w a1 n1 c1 l1) (k : Bs w a2 n2 c2 l2) => compareI_any h k)
    have H3 := Lib.hid (fun w (h : Bs w a0 n0 c0 l0) (k : Bs w a2 n2 c2 l2) => compareI_any h k)
    have H4 := Lib.hid (fun w (h : Bs w a0 n0 c0 l0) (k : Bs w a1 n1 c1 l1) => ref_compareI_any h k (by omega) (by omega))
    have H5 := Lib.hid (fun w (h : Bs w a1 n1 c1 l1) (k : Bs w a0 n0 c0 l0) => compareI_any h k)
    have H6 := Lib.hid (fun w (h : Bs w a0 n0 c0 l0) => ref_valid_any h)
    have H7 := Lib.hid (fun w (h : Bs w a1 n1 c1 l1) => ref_valid_any h)
    have H8 := Lib.hid (fun w (h : Bs w a2 n2 c2 l2) => ref_valid_any h)
    have H9 := Lib.hid (fun w (h : Bs w a0 n0 c0 l0) => ref_int_any h)
    have HB := Lib.hid (fun w (h : Bs w a1 n1 c1 l1) => ref_int_any h)
    rw [cmpI_anti l0 l1] at H5
    have hbd := cmpI_bd l0 l1
    have HEQ : Hid (vI l0 = true → vI l1 = true → eqB l0 l1 = (cmpI l0 l1 == 0)) := by show _ → _ → _; intro ha hb; exact (cmp_eq ha hb).symm
    have HORD : Hid (intB l0 = true → intB l1 = true → (cmpI l0 l1 < 0 ↔ intV l0 < intV l1)) := by show _ → _ → _; intro ha hb; exact int_order ha hb
    have HTR : Hid (vI l0 = true → vI l1 = true → vI l2 = true → (0 < cmpI l0 l1 ∨ (¬ 0 < cmpI l0 l1 ∧ 0 < cmpI l1 l2) ∨ (¬ 0 < cmpI l0 l1 ∧ ¬ 0 < cmpI l1 l2 ∧ cmpI l0 l2 ≤ 0))) := by
      show _ → _ → _ → _
      intro ha hb hc
      by_cases h1 : 0 < cmpI l0 l1
      · exact .inl h1
      · by_cases h2 : 0 < cmpI l1 l2
        · exact .inr (.inl ⟨h1, h2⟩)
        · exact .inr (.inr ⟨h1, h2, cmpI_trans ha hb hc (by omega) (by omega)⟩)
    generalize cmpI l0 l1 = x at *
    generalize cmpI l1 l2 = y at *
    generalize cmpI l0 l2 = z at *
    generalize vI l0 = v0 at *
    generalize vI l1 = v1 at *
    generalize vI l2 = v2 at *
    generalize intB l0 = k0 at *
    generalize intB l1 = k1 at *
    generalize intV l0 = i0 at *
    generalize intV l1 = i1 at *
    go_enter Tryd.func6, Tryd.ntmps6
    go_wp2_with fail
    with_reducible refine (HA.out _).mono ?_
    rintro e w1 ⟨rfl, q1⟩
    have Q1 := Lib.hid q1
    clear q1
    go_wp2_with fail
    with_reducible refine (H1.out _ (HX.out.below Q1.out) (HY.out.below Q1.out)).mono ?_
    rintro e w2 ⟨rfl, q⟩
    have Q2 := Lib.hid (bthen Q1.out q)
    clear q Q1
    go_wp2_with fail
    with_reducible refine (H2.out _ (HY.out.below Q2.out) (HZ.out.below Q2.out)).mono ?_
    rintro e w3 ⟨rfl, q⟩
    have Q3 := Lib.hid (bthen Q2.out q)
    clear q Q2
    go_wp2_with fail
    with_reducible refine (H3.out _ (HX.out.below Q3.out) (HZ.out.below Q3.out)).mono ?_
    rintro e w4 ⟨rfl, q⟩
    have Q4 := Lib.hid (bthen Q3.out q)
    clear q Q3
    go_wp2_with fail
    with_reducible refine (H4.out _ (HX.out.below Q4.out) (HY.out.below Q4.out)).mono ?_
    rintro e w5 ⟨rfl, q⟩
    have Q5 := Lib.hid (bthen Q4.out q)
    clear q Q4
    go_wp2_with fail
    with_reducible refine (H5.out _ (HY.out.below Q5.out) (HX.out.below Q5.out)).mono ?_
    rintro e w6 ⟨rfl, q⟩
    have Q6 := Lib.hid (bthen Q5.out q)
    have X6 := Lib.hid (HX.out.below Q6.out)
    have Y6 := Lib.hid (HY.out.below Q6.out)
    have Z6 := Lib.hid (HZ.out.below Q6.out)
    clear q Q5
    go_wp2_with fail
    with_reducible refine (H6.out _ X6.out).mono ?_
    rintro e w7 ⟨rfl, rfl⟩
    cases v0
    · go_wp2_with fail
      go_ret
      exact ⟨rfl, Q6.out⟩
    go_wp2_with fail
    with_reducible refine (H7.out _ Y6.out).mono ?_
    rintro e w7 ⟨rfl, rfl⟩
    cases v1
    · go_wp2_with fail
      go_ret
      exact ⟨rfl, Q6.out⟩
    go_wp2_with fail
    with_reducible refine (H8.out _ Z6.out).mono ?_
    rintro e w7 ⟨rfl, rfl⟩
    cases v2
    · go_wp2_with fail
      go_ret
      exact ⟨rfl, Q6.out⟩
    go_wp2_with fail
    with_reducible refine (H9.out _ X6.out).mono ?_
    rintro e w7 ⟨rfl, rfl⟩
    go_wp2_with fail
    with_reducible refine (HB.out _ Y6.out).mono ?_
    rintro e w7 ⟨rfl, rfl⟩
    have hok : k0 = false ∨ (k0 = true ∧ k1 = false) ∨ (k0 = true ∧ k1 = true ∧ x < 0 ∧ i0 < i1) ∨ (k0 = true ∧ k1 = true ∧ (!decide (x < 0) == decide (i0 < i1)) = false ∧ ¬ x < 0) := by
      cases k0
      · exact .inl rfl
      · cases k1
        · exact .inr (.inl ⟨rfl, rfl⟩)
        · have := HORD.out (by simp) (by simp)
          by_cases hx : x < 0
          · exact .inr (.inr (.inl ⟨rfl, rfl, hx, this.1 hx⟩))
          · have h1 : ¬ i0 < i1 := fun h => hx (this.2 h)
            exact .inr (.inr (.inr ⟨rfl, rfl, by simp [hx, h1], hx⟩))
    have HEQ2 := Lib.hid (HEQ.out (by simp) (by simp))
    have hfin := HTR.out (by simp) (by simp) (by simp)
    rcases hok with rfl | ⟨rfl, rfl⟩ | ⟨rfl, rfl, hx1, hx2⟩ | ⟨rfl, rfl, hx1, hx2⟩
    all_goals
      rcases hfin with hf | ⟨hf1, hf2⟩ | ⟨hf1, hf2, hf3⟩
      all_goals
        try (exfalso; omega)
      all_goals
        go_wp2_with fail
        with_reducible refine (bytes_any X6.out Y6.out).mono ?_
        rintro e w7 ⟨rfl, rfl⟩
        rw [HEQ2.out]
        go_wp2_with fail
        go_ret
        exact ⟨rfl, Q6.out⟩
  · have hs' : (500 : Int) < n0 ∨ ¬ (500 : Int) < n0 ∧ (500 : Int) < n1 ∨ ¬ (500 : Int) < n0 ∧ ¬ (500 : Int) < n1 ∧ (500 : Int) < n2 := by omega
    rcases hs' with h | ⟨h, h2⟩ | ⟨h, h2, h3⟩
    all_goals
      go_enter Tryd.func6, Tryd.ntmps6
      go_wp2_with fail
      with_reducible refine (HA.out _).mono ?_
      rintro e w1 ⟨rfl, q1⟩
      go_wp2_with fail
      with_reducible refine (HA.out _).mono ?_
      rintro e w2 ⟨rfl, q2⟩
      go_wp2_with fail
      go_ret
      exact ⟨rfl, bthen q1 q2⟩
end Go.Proofs.YtammegdfjgphkaaDoor.integerOrders
