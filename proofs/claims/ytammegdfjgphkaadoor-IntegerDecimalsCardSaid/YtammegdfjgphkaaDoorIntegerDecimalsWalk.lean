/-
  The walk of the law IntegerDecimals.
-/
import Derived.Test.YtammegdfjgphkaaDoorIntAwake
import Derived.Test.YtammegdfjgphkaaDoorIntRefPar
namespace Go.Proofs.YtammegdfjgphkaaDoor.integerDecimals
open Go.RowKit

theorem decI_len {l : List UInt8} {n : Nat} (h : l.length = n) (hn : n ≤ 60) : (decS l).length ≤ 185 := by
  unfold decS
  split
  · have hb := bnum_lt l
    have h1 : (sval l).natAbs < 256 ^ 61 := by
      have h2 := pow_mono256 (show l.length ≤ 60 by omega)
      have h3 := pow_succ256 60
      have h4 := pow_pos256 60
      rw [h3]
      generalize 256 ^ 60 = Q at *
      unfold sval
      split
      · generalize 256 ^ l.length = P at *
        omega
      · omega
    have h3 := decN_len256 h1
    unfold decI
    split
    · simp only [List.length_cons]; omega
    · omega
  · simp
theorem dval_lt (k : Nat) : ∀ t : List UInt8, t.length = k → dval t < 256 ^ k := by
  induction k with
  | zero =>
    intro t ht
    have : t = [] := List.eq_nil_of_length_eq_zero ht
    subst this
    decide
  | succ k ih =>
    intro t ht
    rcases List.eq_nil_or_concat t with rfl | ⟨t', x, rfl⟩
    · simp at ht
    · rw [List.concat_eq_append] at *
      have h1 := ih t' (by simpa using ht)
      have hx := x.toNat_lt
      rw [dval_snoc, pow_succ256]
      generalize 256 ^ k = P at *
      omega
theorem senc_len_abs (k : Nat) : ∀ n : Int, -((256 ^ k : Nat) : Int) ≤ n → n < ((256 ^ k : Nat) : Int) → (senc n).length ≤ k + 1 := by
  induction k with
  | zero =>
    intro n h1 h2
    rw [senc_small (by simp at h1 h2; omega)]
    simp
  | succ k ih =>
    intro n h1 h2
    by_cases h : -128 ≤ n ∧ n < 128
    · rw [senc_small h]; simp
    · rw [senc_big h, List.length_append, List.length_singleton]
      rw [pow_succ256] at h1 h2
      have := ih (n / 256) (by omega) (by omega)
      omega
theorem back_dec (l : List UInt8) : (vI l = false → decS l = [] ∧ pC (decS l) = 11) ∧ (vI l = true → pC (decS l) = 0 ∧ pL (decS l) = l) := by
  constructor
  · intro h
    have e : decS l = [] := by simp [decS, h]
    refine ⟨e, ?_⟩
    rw [e]
    exact (p_bad (l := []) (by decide)).1
  · intro h
    have e : decS l = decI (sval l) := by unfold decS; rw [if_pos h]
    have hp := p_some (parS_dec (sval l))
    rw [e]
    exact ⟨hp.1, by rw [hp.2, senc_of h]⟩
theorem back_text (s : List UInt8) : pC s = 0 → decS (pL s) = s := by
  intro h
  rcases hp : parS s with _ | n
  · rw [(p_none hp).1] at h
    cases h
  · rw [(p_some hp).2, decS_senc, parS_some hp]
theorem pC_cases (s : List UInt8) : pC s = 0 ∨ pC s = 11 := by
  unfold pC
  split
  · exact .inl rfl
  · exact .inr rfl
theorem pL_len {s : List UInt8} (h : s.length ≤ 100) : (pL s).length ≤ 1000 := by
  rcases hp : parS s with _ | n
  · rw [(p_none hp).2]; simp
  · rw [(p_some hp).2]
    have hn : n = numS s := by
      unfold parS at hp
      split at hp
      · injection hp with hp; exact hp.symm
      · cases hp
    have hr : (restS s).length ≤ 100 := by
      unfold restS
      split
      · rw [List.length_drop]; omega
      · exact h
    have h1 := dval_lt _ (restS s) rfl
    have h2 := pow_mono256 hr
    have h3 : (senc n).length ≤ 100 + 1 := by
      refine senc_len_abs 100 n ?_ ?_
      all_goals
        rw [hn]
        unfold numS
        generalize 256 ^ 100 = Q at *
        generalize 256 ^ (restS s).length = P at *
        split <;> omega
    omega

set_option maxRecDepth 100000 in
set_option maxHeartbeats 4000000 in
theorem walk {w : World} {a : Option Addr} {n c : Nat} {l s : List UInt8} (b0 : Bs w a n c l) :
    Calls Tryd.prog 7 #[.slice a n c, .string ⟨s.toArray⟩] w fun e w' => e = .returned (.bool true) ∧ Below w.heap.size w w' := by
  have HA := Lib.hid (awakeInt_any)
  have HX := Lib.hid b0
  have hl := b0.len
  clear b0
  obtain ⟨S, hS⟩ : ∃ S, s.length = S := ⟨_, rfl⟩
  have hs : (⟨s.toArray⟩ : ByteArray).size = S := by rw [← hS]; rfl
  by_cases hb : n ≤ 60 ∧ S ≤ 100
  · obtain ⟨hb1, hb2⟩ := hb
    have hb1' : ¬ (60 : Int) < n := by omega
    have hb2' : ¬ (100 : Int) < S := by omega
    have H1 := Lib.hid (fun w (h : Bs w a n c l) => dec_any h (by omega))
    have H2 := Lib.hid (fun w => par_any w s (by omega))
    have H3 := Lib.hid (fun w => ref_par_any w s (by omega))
    have H4 := Lib.hid (fun w (h : Bs w a n c l) => ref_dec_any h (by omega))
    have hdl := decI_len hl hb1
    have H5 := Lib.hid (fun w => par_any w (decS l) (by omega))
    have H6 := Lib.hid (fun w (h : Bs w a n c l) => ref_valid_any h)
    have hpl := pL_len (s := s) (by omega)
    have H7 := Lib.hid (fun w a c (h : Bs w a (pL s).length c (pL s)) => dec_any h (by omega))
    have HK := Lib.hid (back_dec l)
    have HT := Lib.hid (back_text s)
    have hpc := pC_cases s
    generalize pL s = x at *
    generalize pC s = C at *
    clear hl hS hdl hpl
    rcases hv : vI l with _ | _
    · rw [hv] at H6
      obtain ⟨hk1, hk2⟩ := HK.out.1 hv
      rw [hk1] at hk2
      rw [hk1, hk2] at H5
      rw [hk1] at H1 H4
      clear hv hk1 hk2 HK H7 HT
      go_enter Tryd.func7, Tryd.ntmps7
      go_wp2_with fail
      with_reducible refine (HA.out _).mono ?_
      rintro e w1 ⟨rfl, q1⟩
      have Q1 := Lib.hid q1
      clear q1
      go_wp2_with fail
      with_reducible refine (H1.out _ (HX.out.below Q1.out)).mono ?_
      rintro e w2 ⟨rfl, q⟩
      have Q2 := Lib.hid (bthen Q1.out q)
      clear q Q1
      go_wp2_with fail
      with_reducible refine (H2.out _).mono ?_
      rintro e w3 ⟨a3, c3, rfl, hb3, q⟩
      have Q3 := Lib.hid (bthen Q2.out q)
      clear q Q2
      go_wp2_with fail
      with_reducible refine (H3.out _).mono ?_
      rintro e w4 ⟨a4, c4, rfl, hb4, q⟩
      have B4 := Lib.hid (hb3.below q)
      have C4 := Lib.hid hb4
      have Q4 := Lib.hid (bthen Q3.out q)
      clear q Q3 hb3 hb4
      go_wp2_with fail
      with_reducible refine (H4.out _ (HX.out.below Q4.out)).mono ?_
      rintro e w5 ⟨rfl, q⟩
      have B5 := Lib.hid (B4.out.below q)
      have C5 := Lib.hid (C4.out.below q)
      have Q5 := Lib.hid (bthen Q4.out q)
      clear q Q4 B4 C4
      go_wp2_with fail
      with_reducible refine (bytes_any B5.out C5.out).mono ?_
      rintro e w6 ⟨rfl, rfl⟩
      rw [eqB_self]
      go_wp2_with fail
      with_reducible refine (H5.out _).mono ?_
      rintro e w7 ⟨a7, c7, rfl, hb7, q⟩
      have Q7 := Lib.hid (bthen Q5.out q)
      clear q Q5 hb7
      go_wp2_with fail
      with_reducible refine (H6.out _ (HX.out.below Q7.out)).mono ?_
      rintro e w8 ⟨rfl, rfl⟩
      go_wp2_with fail
      go_ret
      exact ⟨rfl, Q7.out⟩
    · rw [hv] at H6
      obtain ⟨hk1, hk2⟩ := HK.out.2 hv
      rw [hk1, hk2] at H5
      generalize decS l = D at *
      clear hv hk1 hk2 HK
      go_enter Tryd.func7, Tryd.ntmps7
      go_wp2_with fail
      with_reducible refine (HA.out _).mono ?_
      rintro e w1 ⟨rfl, q1⟩
      have Q1 := Lib.hid q1
      clear q1
      go_wp2_with fail
      with_reducible refine (H1.out _ (HX.out.below Q1.out)).mono ?_
      rintro e w2 ⟨rfl, q⟩
      have Q2 := Lib.hid (bthen Q1.out q)
      clear q Q1
      go_wp2_with fail
      with_reducible refine (H2.out _).mono ?_
      rintro e w3 ⟨a3, c3, rfl, hb3, q⟩
      have Q3 := Lib.hid (bthen Q2.out q)
      clear q Q2
      go_wp2_with fail
      with_reducible refine (H3.out _).mono ?_
      rintro e w4 ⟨a4, c4, rfl, hb4, q⟩
      have B4 := Lib.hid (hb3.below q)
      have C4 := Lib.hid hb4
      have Q4 := Lib.hid (bthen Q3.out q)
      clear q Q3 hb3 hb4
      go_wp2_with fail
      with_reducible refine (H4.out _ (HX.out.below Q4.out)).mono ?_
      rintro e w5 ⟨rfl, q⟩
      have B5 := Lib.hid (B4.out.below q)
      have C5 := Lib.hid (C4.out.below q)
      have Q5 := Lib.hid (bthen Q4.out q)
      clear q Q4 B4 C4
      go_wp2_with fail
      with_reducible refine (bytes_any B5.out C5.out).mono ?_
      rintro e w6 ⟨rfl, rfl⟩
      rw [eqB_self]
      go_wp2_with fail
      with_reducible refine (H5.out _).mono ?_
      rintro e w7 ⟨a7, c7, rfl, hb7, q⟩
      have B7 := Lib.hid (B5.out.below q)
      have D7 := Lib.hid hb7
      have Q7 := Lib.hid (bthen Q5.out q)
      clear q Q5 hb7 B5 C5
      go_wp2_with fail
      with_reducible refine (H6.out _ (HX.out.below Q7.out)).mono ?_
      rintro e w8 ⟨rfl, rfl⟩
      go_wp2_with fail
      with_reducible refine (bytes_any D7.out (HX.out.below Q7.out)).mono ?_
      rintro e w9 ⟨rfl, rfl⟩
      rw [eqB_self]
      rcases hpc with rfl | rfl
      · have H8 := Lib.hid (H7.out _ _ _ B7.out)
        rw [HT.out rfl] at H8
        go_wp2_with fail
        with_reducible refine H8.out.mono ?_
        rintro e wA ⟨rfl, q⟩
        go_wp2_with fail
        go_ret
        exact ⟨rfl, bthen Q7.out q⟩
      · go_wp2_with fail
        go_ret
        exact ⟨rfl, Q7.out⟩
  · have hb' : (60 : Int) < n ∨ ¬ (60 : Int) < n ∧ (100 : Int) < S := by omega
    rcases hb' with h | ⟨h, h2⟩
    all_goals
      go_enter Tryd.func7, Tryd.ntmps7
      go_wp2_with fail
      with_reducible refine (HA.out _).mono ?_
      rintro e w1 ⟨rfl, q1⟩
      go_wp2_with fail
      with_reducible refine (HA.out _).mono ?_
      rintro e w2 ⟨rfl, q2⟩
      go_wp2_with fail
      go_ret
      exact ⟨rfl, bthen q1 q2⟩
end Go.Proofs.YtammegdfjgphkaaDoor.integerDecimals
