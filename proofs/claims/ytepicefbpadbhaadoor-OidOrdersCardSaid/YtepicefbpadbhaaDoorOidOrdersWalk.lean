/-
  The walk of the law OidOrders.
-/
import Derived.Test.YtepicefbpadbhaaDoorOidAwake
import Derived.Test.YtepicefbpadbhaaDoorOidRefOrd
namespace Go.Proofs.YtepicefbpadbhaaDoor.oidOrders
open Go.RowKit

theorem any_facts (a b : List UInt8) : cmpO b a = - cmpO a b ∧ -1 ≤ cmpO a b ∧ cmpO a b ≤ 1 := by
  rcases ha : arcsO a with _ | x
  · rw [cmpO_left ha, cmpO_right ha]
    decide
  · rcases hb : arcsO b with _ | y
    · rw [cmpO_left hb, cmpO_right hb]
      decide
    · rw [cmpO_both ha hb, cmpO_both hb ha]
      exact ⟨lexN_anti x y, lexN_bd x y⟩
theorem valid_facts {a b c : List UInt8} {x y z : List Nat} (ha : arcsO a = some x) (hb : arcsO b = some y) (hc : arcsO c = some z) :
    (cmpO a b = 0 ↔ a = b) ∧ (cmpO a b ≤ 0 → cmpO b c ≤ 0 → cmpO a c ≤ 0) ∧ (undO a b = true → 0 ≤ cmpO a b) := by
  rw [cmpO_both ha hb, cmpO_both hb hc, cmpO_both ha hc]
  refine ⟨?_, lexN_trans x y z, ?_⟩
  · rw [lexN_zero]
    constructor
    · intro h
      rw [← (arcs_some ha).2, ← (arcs_some hb).2, h]
    · intro h
      rw [h, hb] at ha
      exact (Option.some.inj ha).symm
  · intro h
    apply lexN_prefix
    unfold undO at h
    rw [ha, hb] at h
    simpa using h
set_option maxRecDepth 100000 in
set_option maxHeartbeats 8000000 in
theorem walk {w : World} (hW : Wd w) {a b c : List UInt8} :
    Calls Tryd.prog 6 #[.string ⟨a.toArray⟩, .string ⟨b.toArray⟩, .string ⟨c.toArray⟩] w fun e w' => e = .returned (.bool true) ∧ Below w.heap.size w w' := by
  have HW := Lib.hid (fun w' (h : Below w.heap.size w w') => hW.below h)
  have HA := Lib.hid (fun w' (h : Wd w') => awakeOid_any w' h)
  have HW0 := Lib.hid hW
  clear hW
  obtain ⟨S, hS⟩ : ∃ S, a.length = S := ⟨_, rfl⟩
  obtain ⟨T, hT⟩ : ∃ T, b.length = T := ⟨_, rfl⟩
  obtain ⟨R, hR⟩ : ∃ R, c.length = R := ⟨_, rfl⟩
  have hs : (⟨a.toArray⟩ : ByteArray).size = S := by rw [← hS]; rfl
  have ht : (⟨b.toArray⟩ : ByteArray).size = T := by rw [← hT]; rfl
  have hr : (⟨c.toArray⟩ : ByteArray).size = R := by rw [← hR]; rfl
  by_cases h1 : S ≤ 300
  · have h1a : ¬ (300 : Int) < S := by omega
    have h1b : ¬ (S : Int) > 300 := by omega
    by_cases h2 : T ≤ 300
    · have h2a : ¬ (300 : Int) < T := by omega
      have h2b : ¬ (T : Int) > 300 := by omega
      by_cases h3 : R ≤ 300
      · have h3a : ¬ (300 : Int) < R := by omega
        have h3b : ¬ (R : Int) > 300 := by omega
        have HCab := Lib.hid (fun w (h : Wd w) => compare_any w h a b (by omega) (by omega))
        have HCbc := Lib.hid (fun w (h : Wd w) => compare_any w h b c (by omega) (by omega))
        have HCac := Lib.hid (fun w (h : Wd w) => compare_any w h a c (by omega) (by omega))
        have HCba := Lib.hid (fun w (h : Wd w) => compare_any w h b a (by omega) (by omega))
        have HRab := Lib.hid (fun w => refCompare_any w a b (by omega) (by omega))
        have HU := Lib.hid (fun w (h : Wd w) => under_any w h a b (by omega) (by omega))
        have HRU := Lib.hid (fun w => refUnder_any w a b (by omega) (by omega))
        have HVa := Lib.hid (fun w => refValid_any w a (by omega))
        have HVb := Lib.hid (fun w => refValid_any w b (by omega))
        have HVc := Lib.hid (fun w => refValid_any w c (by omega))
        obtain ⟨hx, hx1, hx2⟩ := any_facts a b
        obtain ⟨-, hy1, hy2⟩ := any_facts b c
        obtain ⟨-, hz1, hz2⟩ := any_facts a c
        rw [hx] at HCba
        clear hx hS hT hR
        have FACT : Hid (valO a = false ∨ valO b = false ∨ valO c = false ∨ (valO a = true ∧ valO b = true ∧ valO c = true ∧ (cmpO a b = 0 ↔ a = b) ∧ (cmpO a b ≤ 0 → cmpO b c ≤ 0 → cmpO a c ≤ 0) ∧ (undO a b = true → 0 ≤ cmpO a b))) := by
          rcases ha : arcsO a with _ | x
          · exact .inl (val_none ha)
          rcases hb : arcsO b with _ | y
          · exact .inr (.inl (val_none hb))
          rcases hc : arcsO c with _ | z
          · exact .inr (.inr (.inl (val_none hc)))
          exact .inr (.inr (.inr ⟨val_some ha, val_some hb, val_some hc, valid_facts ha hb hc⟩))
        generalize cmpO a b = X at *
        generalize cmpO b c = Y at *
        generalize cmpO a c = Z at *
        generalize undO a b = U at *
        generalize valO a = va at *
        generalize valO b = vb at *
        generalize valO c = vc at *
        have hxx : ((-X) != (-X)) = false := by simp
        have hxy : (X != X) = false := by simp
        have huu : (U != U) = false := by simp
        cases va with
        | false =>
          clear FACT
          go_enter Tryd.func6, Tryd.ntmps6
          go_wp2_with fail
          with_reducible refine (HA.out _ HW0.out).mono ?_
          rintro e w1 ⟨rfl, q⟩
          have Q1 := Lib.hid q
          clear q
          go_wp2_with fail
          with_reducible refine (HCab.out _ (HW.out _ Q1.out)).mono ?_
          rintro e w2 ⟨rfl, q⟩
          have Q2 := Lib.hid (bthen Q1.out q)
          clear q Q1
          go_wp2_with fail
          with_reducible refine (HCbc.out _ (HW.out _ Q2.out)).mono ?_
          rintro e w3 ⟨rfl, q⟩
          have Q3 := Lib.hid (bthen Q2.out q)
          clear q Q2
          go_wp2_with fail
          with_reducible refine (HCac.out _ (HW.out _ Q3.out)).mono ?_
          rintro e w4 ⟨rfl, q⟩
          have Q4 := Lib.hid (bthen Q3.out q)
          clear q Q3
          go_wp2_with fail
          with_reducible refine (HRab.out _).mono ?_
          rintro e w5 ⟨rfl, q⟩
          have Q5 := Lib.hid (bthen Q4.out q)
          clear q Q4
          go_wp2_with fail
          with_reducible refine (HCba.out _ (HW.out _ Q5.out)).mono ?_
          rintro e w6 ⟨rfl, q⟩
          have Q6 := Lib.hid (bthen Q5.out q)
          clear q Q5
          go_wp2_with fail
          with_reducible refine (HU.out _ (HW.out _ Q6.out)).mono ?_
          rintro e w7 ⟨rfl, q⟩
          have Q7 := Lib.hid (bthen Q6.out q)
          clear q Q6
          go_wp2_with fail
          with_reducible refine (HRU.out _).mono ?_
          rintro e w8 ⟨rfl, q⟩
          have Q8 := Lib.hid (bthen Q7.out q)
          clear q Q7
          go_wp2_with fail
          with_reducible refine (HVa.out _).mono ?_
          rintro e w9 ⟨rfl, q⟩
          have Q9 := Lib.hid (bthen Q8.out q)
          clear q Q8
          go_wp2_with fail
          go_ret
          exact ⟨rfl, Q9.out⟩
        | true =>
          cases vb with
          | false =>
            clear FACT
            go_enter Tryd.func6, Tryd.ntmps6
            go_wp2_with fail
            with_reducible refine (HA.out _ HW0.out).mono ?_
            rintro e w1 ⟨rfl, q⟩
            have Q1 := Lib.hid q
            clear q
            go_wp2_with fail
            with_reducible refine (HCab.out _ (HW.out _ Q1.out)).mono ?_
            rintro e w2 ⟨rfl, q⟩
            have Q2 := Lib.hid (bthen Q1.out q)
            clear q Q1
            go_wp2_with fail
            with_reducible refine (HCbc.out _ (HW.out _ Q2.out)).mono ?_
            rintro e w3 ⟨rfl, q⟩
            have Q3 := Lib.hid (bthen Q2.out q)
            clear q Q2
            go_wp2_with fail
            with_reducible refine (HCac.out _ (HW.out _ Q3.out)).mono ?_
            rintro e w4 ⟨rfl, q⟩
            have Q4 := Lib.hid (bthen Q3.out q)
            clear q Q3
            go_wp2_with fail
            with_reducible refine (HRab.out _).mono ?_
            rintro e w5 ⟨rfl, q⟩
            have Q5 := Lib.hid (bthen Q4.out q)
            clear q Q4
            go_wp2_with fail
            with_reducible refine (HCba.out _ (HW.out _ Q5.out)).mono ?_
            rintro e w6 ⟨rfl, q⟩
            have Q6 := Lib.hid (bthen Q5.out q)
            clear q Q5
            go_wp2_with fail
            with_reducible refine (HU.out _ (HW.out _ Q6.out)).mono ?_
            rintro e w7 ⟨rfl, q⟩
            have Q7 := Lib.hid (bthen Q6.out q)
            clear q Q6
            go_wp2_with fail
            with_reducible refine (HRU.out _).mono ?_
            rintro e w8 ⟨rfl, q⟩
            have Q8 := Lib.hid (bthen Q7.out q)
            clear q Q7
            go_wp2_with fail
            with_reducible refine (HVa.out _).mono ?_
            rintro e w9 ⟨rfl, q⟩
            have Q9 := Lib.hid (bthen Q8.out q)
            clear q Q8
            go_wp2_with fail
            with_reducible refine (HVb.out _).mono ?_
            rintro e w10 ⟨rfl, q⟩
            have Q10 := Lib.hid (bthen Q9.out q)
            clear q Q9
            go_wp2_with fail
            go_ret
            exact ⟨rfl, Q10.out⟩
          | true =>
            cases vc with
            | false =>
              clear FACT
              go_enter Tryd.func6, Tryd.ntmps6
              go_wp2_with fail
              with_reducible refine (HA.out _ HW0.out).mono ?_
              rintro e w1 ⟨rfl, q⟩
              have Q1 := Lib.hid q
              clear q
              go_wp2_with fail
              with_reducible refine (HCab.out _ (HW.out _ Q1.out)).mono ?_
              rintro e w2 ⟨rfl, q⟩
              have Q2 := Lib.hid (bthen Q1.out q)
              clear q Q1
              go_wp2_with fail
              with_reducible refine (HCbc.out _ (HW.out _ Q2.out)).mono ?_
              rintro e w3 ⟨rfl, q⟩
              have Q3 := Lib.hid (bthen Q2.out q)
              clear q Q2
              go_wp2_with fail
              with_reducible refine (HCac.out _ (HW.out _ Q3.out)).mono ?_
              rintro e w4 ⟨rfl, q⟩
              have Q4 := Lib.hid (bthen Q3.out q)
              clear q Q3
              go_wp2_with fail
              with_reducible refine (HRab.out _).mono ?_
              rintro e w5 ⟨rfl, q⟩
              have Q5 := Lib.hid (bthen Q4.out q)
              clear q Q4
              go_wp2_with fail
              with_reducible refine (HCba.out _ (HW.out _ Q5.out)).mono ?_
              rintro e w6 ⟨rfl, q⟩
              have Q6 := Lib.hid (bthen Q5.out q)
              clear q Q5
              go_wp2_with fail
              with_reducible refine (HU.out _ (HW.out _ Q6.out)).mono ?_
              rintro e w7 ⟨rfl, q⟩
              have Q7 := Lib.hid (bthen Q6.out q)
              clear q Q6
              go_wp2_with fail
              with_reducible refine (HRU.out _).mono ?_
              rintro e w8 ⟨rfl, q⟩
              have Q8 := Lib.hid (bthen Q7.out q)
              clear q Q7
              go_wp2_with fail
              with_reducible refine (HVa.out _).mono ?_
              rintro e w9 ⟨rfl, q⟩
              have Q9 := Lib.hid (bthen Q8.out q)
              clear q Q8
              go_wp2_with fail
              with_reducible refine (HVb.out _).mono ?_
              rintro e w10 ⟨rfl, q⟩
              have Q10 := Lib.hid (bthen Q9.out q)
              clear q Q9
              go_wp2_with fail
              with_reducible refine (HVc.out _).mono ?_
              rintro e w11 ⟨rfl, q⟩
              have Q11 := Lib.hid (bthen Q10.out q)
              clear q Q10
              go_wp2_with fail
              go_ret
              exact ⟨rfl, Q11.out⟩
            | true =>
              obtain ⟨hab, htr, hun⟩ : (X = 0 ↔ a = b) ∧ (X ≤ 0 → Y ≤ 0 → Z ≤ 0) ∧ (U = true → 0 ≤ X) := by
                rcases FACT.out with h | h | h | ⟨_, _, _, h⟩
                · cases h
                · cases h
                · cases h
                · exact h
              clear FACT
              have hE : (X == 0) = (a == b) := by
                rw [Bool.eq_iff_iff]
                simp only [beq_iff_eq]
                exact hab
              clear hab
              by_cases hX : 0 < X
              · clear htr
                cases U with
                | true =>
                  clear hun
                  have hd : Hid (decide (0 ≤ X) = true) := decide_eq_true (by omega)
                  go_enter Tryd.func6, Tryd.ntmps6
                  go_wp2_with fail
                  with_reducible refine (HA.out _ HW0.out).mono ?_
                  rintro e w1 ⟨rfl, q⟩
                  have Q1 := Lib.hid q
                  clear q
                  go_wp2_with fail
                  with_reducible refine (HCab.out _ (HW.out _ Q1.out)).mono ?_
                  rintro e w2 ⟨rfl, q⟩
                  have Q2 := Lib.hid (bthen Q1.out q)
                  clear q Q1
                  go_wp2_with fail
                  with_reducible refine (HCbc.out _ (HW.out _ Q2.out)).mono ?_
                  rintro e w3 ⟨rfl, q⟩
                  have Q3 := Lib.hid (bthen Q2.out q)
                  clear q Q2
                  go_wp2_with fail
                  with_reducible refine (HCac.out _ (HW.out _ Q3.out)).mono ?_
                  rintro e w4 ⟨rfl, q⟩
                  have Q4 := Lib.hid (bthen Q3.out q)
                  clear q Q3
                  go_wp2_with fail
                  with_reducible refine (HRab.out _).mono ?_
                  rintro e w5 ⟨rfl, q⟩
                  have Q5 := Lib.hid (bthen Q4.out q)
                  clear q Q4
                  go_wp2_with fail
                  with_reducible refine (HCba.out _ (HW.out _ Q5.out)).mono ?_
                  rintro e w6 ⟨rfl, q⟩
                  have Q6 := Lib.hid (bthen Q5.out q)
                  clear q Q5
                  go_wp2_with fail
                  with_reducible refine (HU.out _ (HW.out _ Q6.out)).mono ?_
                  rintro e w7 ⟨rfl, q⟩
                  have Q7 := Lib.hid (bthen Q6.out q)
                  clear q Q6
                  go_wp2_with fail
                  with_reducible refine (HRU.out _).mono ?_
                  rintro e w8 ⟨rfl, q⟩
                  have Q8 := Lib.hid (bthen Q7.out q)
                  clear q Q7
                  go_wp2_with fail
                  with_reducible refine (HVa.out _).mono ?_
                  rintro e w9 ⟨rfl, q⟩
                  have Q9 := Lib.hid (bthen Q8.out q)
                  clear q Q8
                  go_wp2_with fail
                  with_reducible refine (HVb.out _).mono ?_
                  rintro e w10 ⟨rfl, q⟩
                  have Q10 := Lib.hid (bthen Q9.out q)
                  clear q Q9
                  go_wp2_with fail
                  with_reducible refine (HVc.out _).mono ?_
                  rintro e w11 ⟨rfl, q⟩
                  have Q11 := Lib.hid (bthen Q10.out q)
                  clear q Q10
                  go_wp2_with fail
                  with_reducible refine (HU.out _ (HW.out _ Q11.out)).mono ?_
                  rintro e w12 ⟨rfl, q⟩
                  have Q12 := Lib.hid (bthen Q11.out q)
                  clear q Q11
                  go_wp2_with fail
                  go_ret
                  exact ⟨by first | rfl | (rw [hd.out]; rfl), Q12.out⟩
                | false =>
                  clear hun
                  go_enter Tryd.func6, Tryd.ntmps6
                  go_wp2_with fail
                  with_reducible refine (HA.out _ HW0.out).mono ?_
                  rintro e w1 ⟨rfl, q⟩
                  have Q1 := Lib.hid q
                  clear q
                  go_wp2_with fail
                  with_reducible refine (HCab.out _ (HW.out _ Q1.out)).mono ?_
                  rintro e w2 ⟨rfl, q⟩
                  have Q2 := Lib.hid (bthen Q1.out q)
                  clear q Q1
                  go_wp2_with fail
                  with_reducible refine (HCbc.out _ (HW.out _ Q2.out)).mono ?_
                  rintro e w3 ⟨rfl, q⟩
                  have Q3 := Lib.hid (bthen Q2.out q)
                  clear q Q2
                  go_wp2_with fail
                  with_reducible refine (HCac.out _ (HW.out _ Q3.out)).mono ?_
                  rintro e w4 ⟨rfl, q⟩
                  have Q4 := Lib.hid (bthen Q3.out q)
                  clear q Q3
                  go_wp2_with fail
                  with_reducible refine (HRab.out _).mono ?_
                  rintro e w5 ⟨rfl, q⟩
                  have Q5 := Lib.hid (bthen Q4.out q)
                  clear q Q4
                  go_wp2_with fail
                  with_reducible refine (HCba.out _ (HW.out _ Q5.out)).mono ?_
                  rintro e w6 ⟨rfl, q⟩
                  have Q6 := Lib.hid (bthen Q5.out q)
                  clear q Q5
                  go_wp2_with fail
                  with_reducible refine (HU.out _ (HW.out _ Q6.out)).mono ?_
                  rintro e w7 ⟨rfl, q⟩
                  have Q7 := Lib.hid (bthen Q6.out q)
                  clear q Q6
                  go_wp2_with fail
                  with_reducible refine (HRU.out _).mono ?_
                  rintro e w8 ⟨rfl, q⟩
                  have Q8 := Lib.hid (bthen Q7.out q)
                  clear q Q7
                  go_wp2_with fail
                  with_reducible refine (HVa.out _).mono ?_
                  rintro e w9 ⟨rfl, q⟩
                  have Q9 := Lib.hid (bthen Q8.out q)
                  clear q Q8
                  go_wp2_with fail
                  with_reducible refine (HVb.out _).mono ?_
                  rintro e w10 ⟨rfl, q⟩
                  have Q10 := Lib.hid (bthen Q9.out q)
                  clear q Q9
                  go_wp2_with fail
                  with_reducible refine (HVc.out _).mono ?_
                  rintro e w11 ⟨rfl, q⟩
                  have Q11 := Lib.hid (bthen Q10.out q)
                  clear q Q10
                  go_wp2_with fail
                  with_reducible refine (HU.out _ (HW.out _ Q11.out)).mono ?_
                  rintro e w12 ⟨rfl, q⟩
                  have Q12 := Lib.hid (bthen Q11.out q)
                  clear q Q11
                  go_wp2_with fail
                  go_ret
                  exact ⟨rfl, Q12.out⟩
              · by_cases hY : 0 < Y
                · clear htr
                  cases U with
                  | true =>
                    have hX3 := hun rfl
                    clear hun
                    have hd : Hid (decide (0 ≤ X) = true) := decide_eq_true (by omega)
                    go_enter Tryd.func6, Tryd.ntmps6
                    go_wp2_with fail
                    with_reducible refine (HA.out _ HW0.out).mono ?_
                    rintro e w1 ⟨rfl, q⟩
                    have Q1 := Lib.hid q
                    clear q
                    go_wp2_with fail
                    with_reducible refine (HCab.out _ (HW.out _ Q1.out)).mono ?_
                    rintro e w2 ⟨rfl, q⟩
                    have Q2 := Lib.hid (bthen Q1.out q)
                    clear q Q1
                    go_wp2_with fail
                    with_reducible refine (HCbc.out _ (HW.out _ Q2.out)).mono ?_
                    rintro e w3 ⟨rfl, q⟩
                    have Q3 := Lib.hid (bthen Q2.out q)
                    clear q Q2
                    go_wp2_with fail
                    with_reducible refine (HCac.out _ (HW.out _ Q3.out)).mono ?_
                    rintro e w4 ⟨rfl, q⟩
                    have Q4 := Lib.hid (bthen Q3.out q)
                    clear q Q3
                    go_wp2_with fail
                    with_reducible refine (HRab.out _).mono ?_
                    rintro e w5 ⟨rfl, q⟩
                    have Q5 := Lib.hid (bthen Q4.out q)
                    clear q Q4
                    go_wp2_with fail
                    with_reducible refine (HCba.out _ (HW.out _ Q5.out)).mono ?_
                    rintro e w6 ⟨rfl, q⟩
                    have Q6 := Lib.hid (bthen Q5.out q)
                    clear q Q5
                    go_wp2_with fail
                    with_reducible refine (HU.out _ (HW.out _ Q6.out)).mono ?_
                    rintro e w7 ⟨rfl, q⟩
                    have Q7 := Lib.hid (bthen Q6.out q)
                    clear q Q6
                    go_wp2_with fail
                    with_reducible refine (HRU.out _).mono ?_
                    rintro e w8 ⟨rfl, q⟩
                    have Q8 := Lib.hid (bthen Q7.out q)
                    clear q Q7
                    go_wp2_with fail
                    with_reducible refine (HVa.out _).mono ?_
                    rintro e w9 ⟨rfl, q⟩
                    have Q9 := Lib.hid (bthen Q8.out q)
                    clear q Q8
                    go_wp2_with fail
                    with_reducible refine (HVb.out _).mono ?_
                    rintro e w10 ⟨rfl, q⟩
                    have Q10 := Lib.hid (bthen Q9.out q)
                    clear q Q9
                    go_wp2_with fail
                    with_reducible refine (HVc.out _).mono ?_
                    rintro e w11 ⟨rfl, q⟩
                    have Q11 := Lib.hid (bthen Q10.out q)
                    clear q Q10
                    go_wp2_with fail
                    with_reducible refine (HU.out _ (HW.out _ Q11.out)).mono ?_
                    rintro e w12 ⟨rfl, q⟩
                    have Q12 := Lib.hid (bthen Q11.out q)
                    clear q Q11
                    go_wp2_with fail
                    go_ret
                    exact ⟨by first | rfl | (rw [hd.out]; rfl), Q12.out⟩
                  | false =>
                    clear hun
                    go_enter Tryd.func6, Tryd.ntmps6
                    go_wp2_with fail
                    with_reducible refine (HA.out _ HW0.out).mono ?_
                    rintro e w1 ⟨rfl, q⟩
                    have Q1 := Lib.hid q
                    clear q
                    go_wp2_with fail
                    with_reducible refine (HCab.out _ (HW.out _ Q1.out)).mono ?_
                    rintro e w2 ⟨rfl, q⟩
                    have Q2 := Lib.hid (bthen Q1.out q)
                    clear q Q1
                    go_wp2_with fail
                    with_reducible refine (HCbc.out _ (HW.out _ Q2.out)).mono ?_
                    rintro e w3 ⟨rfl, q⟩
                    have Q3 := Lib.hid (bthen Q2.out q)
                    clear q Q2
                    go_wp2_with fail
                    with_reducible refine (HCac.out _ (HW.out _ Q3.out)).mono ?_
                    rintro e w4 ⟨rfl, q⟩
                    have Q4 := Lib.hid (bthen Q3.out q)
                    clear q Q3
                    go_wp2_with fail
                    with_reducible refine (HRab.out _).mono ?_
                    rintro e w5 ⟨rfl, q⟩
                    have Q5 := Lib.hid (bthen Q4.out q)
                    clear q Q4
                    go_wp2_with fail
                    with_reducible refine (HCba.out _ (HW.out _ Q5.out)).mono ?_
                    rintro e w6 ⟨rfl, q⟩
                    have Q6 := Lib.hid (bthen Q5.out q)
                    clear q Q5
                    go_wp2_with fail
                    with_reducible refine (HU.out _ (HW.out _ Q6.out)).mono ?_
                    rintro e w7 ⟨rfl, q⟩
                    have Q7 := Lib.hid (bthen Q6.out q)
                    clear q Q6
                    go_wp2_with fail
                    with_reducible refine (HRU.out _).mono ?_
                    rintro e w8 ⟨rfl, q⟩
                    have Q8 := Lib.hid (bthen Q7.out q)
                    clear q Q7
                    go_wp2_with fail
                    with_reducible refine (HVa.out _).mono ?_
                    rintro e w9 ⟨rfl, q⟩
                    have Q9 := Lib.hid (bthen Q8.out q)
                    clear q Q8
                    go_wp2_with fail
                    with_reducible refine (HVb.out _).mono ?_
                    rintro e w10 ⟨rfl, q⟩
                    have Q10 := Lib.hid (bthen Q9.out q)
                    clear q Q9
                    go_wp2_with fail
                    with_reducible refine (HVc.out _).mono ?_
                    rintro e w11 ⟨rfl, q⟩
                    have Q11 := Lib.hid (bthen Q10.out q)
                    clear q Q10
                    go_wp2_with fail
                    with_reducible refine (HU.out _ (HW.out _ Q11.out)).mono ?_
                    rintro e w12 ⟨rfl, q⟩
                    have Q12 := Lib.hid (bthen Q11.out q)
                    clear q Q11
                    go_wp2_with fail
                    go_ret
                    exact ⟨rfl, Q12.out⟩
                · have hZ : Z ≤ 0 := htr (by omega) (by omega)
                  have hX4 : X ≤ 0 := by omega
                  have hY4 : Y ≤ 0 := by omega
                  clear htr
                  cases U with
                  | true =>
                    have hX3 := hun rfl
                    clear hun
                    have hd : Hid (decide (0 ≤ X) = true) := decide_eq_true (by omega)
                    go_enter Tryd.func6, Tryd.ntmps6
                    go_wp2_with fail
                    with_reducible refine (HA.out _ HW0.out).mono ?_
                    rintro e w1 ⟨rfl, q⟩
                    have Q1 := Lib.hid q
                    clear q
                    go_wp2_with fail
                    with_reducible refine (HCab.out _ (HW.out _ Q1.out)).mono ?_
                    rintro e w2 ⟨rfl, q⟩
                    have Q2 := Lib.hid (bthen Q1.out q)
                    clear q Q1
                    go_wp2_with fail
                    with_reducible refine (HCbc.out _ (HW.out _ Q2.out)).mono ?_
                    rintro e w3 ⟨rfl, q⟩
                    have Q3 := Lib.hid (bthen Q2.out q)
                    clear q Q2
                    go_wp2_with fail
                    with_reducible refine (HCac.out _ (HW.out _ Q3.out)).mono ?_
                    rintro e w4 ⟨rfl, q⟩
                    have Q4 := Lib.hid (bthen Q3.out q)
                    clear q Q3
                    go_wp2_with fail
                    with_reducible refine (HRab.out _).mono ?_
                    rintro e w5 ⟨rfl, q⟩
                    have Q5 := Lib.hid (bthen Q4.out q)
                    clear q Q4
                    go_wp2_with fail
                    with_reducible refine (HCba.out _ (HW.out _ Q5.out)).mono ?_
                    rintro e w6 ⟨rfl, q⟩
                    have Q6 := Lib.hid (bthen Q5.out q)
                    clear q Q5
                    go_wp2_with fail
                    with_reducible refine (HU.out _ (HW.out _ Q6.out)).mono ?_
                    rintro e w7 ⟨rfl, q⟩
                    have Q7 := Lib.hid (bthen Q6.out q)
                    clear q Q6
                    go_wp2_with fail
                    with_reducible refine (HRU.out _).mono ?_
                    rintro e w8 ⟨rfl, q⟩
                    have Q8 := Lib.hid (bthen Q7.out q)
                    clear q Q7
                    go_wp2_with fail
                    with_reducible refine (HVa.out _).mono ?_
                    rintro e w9 ⟨rfl, q⟩
                    have Q9 := Lib.hid (bthen Q8.out q)
                    clear q Q8
                    go_wp2_with fail
                    with_reducible refine (HVb.out _).mono ?_
                    rintro e w10 ⟨rfl, q⟩
                    have Q10 := Lib.hid (bthen Q9.out q)
                    clear q Q9
                    go_wp2_with fail
                    with_reducible refine (HVc.out _).mono ?_
                    rintro e w11 ⟨rfl, q⟩
                    have Q11 := Lib.hid (bthen Q10.out q)
                    clear q Q10
                    go_wp2_with fail
                    with_reducible refine (HU.out _ (HW.out _ Q11.out)).mono ?_
                    rintro e w12 ⟨rfl, q⟩
                    have Q12 := Lib.hid (bthen Q11.out q)
                    clear q Q11
                    go_wp2_with fail
                    go_ret
                    exact ⟨by first | rfl | (rw [hd.out]; rfl), Q12.out⟩
                  | false =>
                    clear hun
                    go_enter Tryd.func6, Tryd.ntmps6
                    go_wp2_with fail
                    with_reducible refine (HA.out _ HW0.out).mono ?_
                    rintro e w1 ⟨rfl, q⟩
                    have Q1 := Lib.hid q
                    clear q
                    go_wp2_with fail
                    with_reducible refine (HCab.out _ (HW.out _ Q1.out)).mono ?_
                    rintro e w2 ⟨rfl, q⟩
                    have Q2 := Lib.hid (bthen Q1.out q)
                    clear q Q1
                    go_wp2_with fail
                    with_reducible refine (HCbc.out _ (HW.out _ Q2.out)).mono ?_
                    rintro e w3 ⟨rfl, q⟩
                    have Q3 := Lib.hid (bthen Q2.out q)
                    clear q Q2
                    go_wp2_with fail
                    with_reducible refine (HCac.out _ (HW.out _ Q3.out)).mono ?_
                    rintro e w4 ⟨rfl, q⟩
                    have Q4 := Lib.hid (bthen Q3.out q)
                    clear q Q3
                    go_wp2_with fail
                    with_reducible refine (HRab.out _).mono ?_
                    rintro e w5 ⟨rfl, q⟩
                    have Q5 := Lib.hid (bthen Q4.out q)
                    clear q Q4
                    go_wp2_with fail
                    with_reducible refine (HCba.out _ (HW.out _ Q5.out)).mono ?_
                    rintro e w6 ⟨rfl, q⟩
                    have Q6 := Lib.hid (bthen Q5.out q)
                    clear q Q5
                    go_wp2_with fail
                    with_reducible refine (HU.out _ (HW.out _ Q6.out)).mono ?_
                    rintro e w7 ⟨rfl, q⟩
                    have Q7 := Lib.hid (bthen Q6.out q)
                    clear q Q6
                    go_wp2_with fail
                    with_reducible refine (HRU.out _).mono ?_
                    rintro e w8 ⟨rfl, q⟩
                    have Q8 := Lib.hid (bthen Q7.out q)
                    clear q Q7
                    go_wp2_with fail
                    with_reducible refine (HVa.out _).mono ?_
                    rintro e w9 ⟨rfl, q⟩
                    have Q9 := Lib.hid (bthen Q8.out q)
                    clear q Q8
                    go_wp2_with fail
                    with_reducible refine (HVb.out _).mono ?_
                    rintro e w10 ⟨rfl, q⟩
                    have Q10 := Lib.hid (bthen Q9.out q)
                    clear q Q9
                    go_wp2_with fail
                    with_reducible refine (HVc.out _).mono ?_
                    rintro e w11 ⟨rfl, q⟩
                    have Q11 := Lib.hid (bthen Q10.out q)
                    clear q Q10
                    go_wp2_with fail
                    with_reducible refine (HU.out _ (HW.out _ Q11.out)).mono ?_
                    rintro e w12 ⟨rfl, q⟩
                    have Q12 := Lib.hid (bthen Q11.out q)
                    clear q Q11
                    go_wp2_with fail
                    go_ret
                    exact ⟨rfl, Q12.out⟩
      · have h3a : (300 : Int) < R := by omega
        have h3b : (R : Int) > 300 := by omega
        clear hS hT hR
        go_enter Tryd.func6, Tryd.ntmps6
        go_wp2_with fail
        with_reducible refine (HA.out _ HW0.out).mono ?_
        rintro e w1 ⟨rfl, q⟩
        have Q1 := Lib.hid q
        clear q
        go_wp2_with fail
        with_reducible refine (HA.out _ (HW.out _ Q1.out)).mono ?_
        rintro e w2 ⟨rfl, q⟩
        have Q2 := Lib.hid (bthen Q1.out q)
        clear q Q1
        go_wp2_with fail
        go_ret
        exact ⟨rfl, Q2.out⟩
    · have h2a : (300 : Int) < T := by omega
      have h2b : (T : Int) > 300 := by omega
      clear hS hT hR
      go_enter Tryd.func6, Tryd.ntmps6
      go_wp2_with fail
      with_reducible refine (HA.out _ HW0.out).mono ?_
      rintro e w1 ⟨rfl, q⟩
      have Q1 := Lib.hid q
      clear q
      go_wp2_with fail
      with_reducible refine (HA.out _ (HW.out _ Q1.out)).mono ?_
      rintro e w2 ⟨rfl, q⟩
      have Q2 := Lib.hid (bthen Q1.out q)
      clear q Q1
      go_wp2_with fail
      go_ret
      exact ⟨rfl, Q2.out⟩
  · have h1a : (300 : Int) < S := by omega
    have h1b : (S : Int) > 300 := by omega
    clear hS hT hR
    go_enter Tryd.func6, Tryd.ntmps6
    go_wp2_with fail
    with_reducible refine (HA.out _ HW0.out).mono ?_
    rintro e w1 ⟨rfl, q⟩
    have Q1 := Lib.hid q
    clear q
    go_wp2_with fail
    with_reducible refine (HA.out _ (HW.out _ Q1.out)).mono ?_
    rintro e w2 ⟨rfl, q⟩
    have Q2 := Lib.hid (bthen Q1.out q)
    clear q Q1
    go_wp2_with fail
    go_ret
    exact ⟨rfl, Q2.out⟩
end Go.Proofs.YtepicefbpadbhaaDoor.oidOrders
