/-
  Plain mathematics: which octets are decoded as points in time.
-/
import Derived.Test.YtneeddbonhiflaaDoorClkNext
import Derived.Test.YtneeddbonhiflaaDoorClDec
import Derived.Test.YtneeddbonhiflaaDoorClBack
namespace Go.Proofs.YtneeddbonhiflaaDoor

def good (K : Nat) (l : List UInt8) : Prop := l.length = K + 11 ∧ l[K + 10]? = some 90 ∧ (l.take (K + 10)).all isDg = true
theorem isDg_iff {x : UInt8} : isDg x = true ↔ 48 ≤ x.toNat ∧ x.toNat ≤ 57 := by unfold isDg; rw [Bool.and_eq_true, decide_eq_true_eq, decide_eq_true_eq]
theorem dgB_dg (n : Int) : isDg (dgB n) = true := by
  rw [isDg_iff]
  unfold dgB
  rw [UInt8.toNat_ofNat']
  omega
theorem dgB_eq {n : Int} {x : UInt8} (hx : 48 ≤ x.toNat ∧ x.toNat ≤ 57) (h : n % 10 = x.toNat - 48) : dgB n = x := by
  apply UInt8.toNat_inj.1
  unfold dgB
  rw [UInt8.toNat_ofNat']
  omega
theorem good_gen (t : Tm) : good 4 (genL t) := by
  refine ⟨genL_len t, rfl, ?_⟩
  show [dgB _, dgB _, dgB _, dgB _, dgB _, dgB _, dgB _, dgB _, dgB _, dgB _, dgB _, dgB _, dgB _, dgB _].all isDg = true
  simp only [List.all_cons, List.all_nil, dgB_dg, Bool.and_true]
theorem good_utc (t : Tm) : good 2 (utcL t) := by
  refine ⟨utcL_len t, rfl, ?_⟩
  show [dgB _, dgB _, dgB _, dgB _, dgB _, dgB _, dgB _, dgB _, dgB _, dgB _, dgB _, dgB _].all isDg = true
  simp only [List.all_cons, List.all_nil, dgB_dg, Bool.and_true]
theorem two_dg {a b : UInt8} (ha : 48 ≤ a.toNat ∧ a.toNat ≤ 57) (hb : 48 ≤ b.toNat ∧ b.toNat ≤ 57) : dgB (((numO [a, b] : Nat) : Int) / 10) = a ∧ dgB ((numO [a, b] : Nat) : Int) = b := by
  have e : numO [a, b] = (0 * 10 + a.toNat % 16) * 10 + b.toNat % 16 := rfl
  rw [e]
  exact ⟨dgB_eq ha (by omega), dgB_eq hb (by omega)⟩
theorem four_dg {a b c d : UInt8} (ha : 48 ≤ a.toNat ∧ a.toNat ≤ 57) (hb : 48 ≤ b.toNat ∧ b.toNat ≤ 57) (hc : 48 ≤ c.toNat ∧ c.toNat ≤ 57) (hd : 48 ≤ d.toNat ∧ d.toNat ≤ 57) :
    dgB (((numO [a, b, c, d] : Nat) : Int) / 10 / 10 / 10) = a ∧ dgB (((numO [a, b, c, d] : Nat) : Int) / 10 / 10) = b ∧ dgB (((numO [a, b, c, d] : Nat) : Int) / 10) = c ∧ dgB ((numO [a, b, c, d] : Nat) : Int) = d := by
  have e : numO [a, b, c, d] = (((0 * 10 + a.toNat % 16) * 10 + b.toNat % 16) * 10 + c.toNat % 16) * 10 + d.toNat % 16 := rfl
  rw [e]
  exact ⟨dgB_eq ha (by omega), dgB_eq hb (by omega), dgB_eq hc (by omega), dgB_eq hd (by omega)⟩
theorem year_dg {a b : UInt8} (ha : 48 ≤ a.toNat ∧ a.toNat ≤ 57) (hb : 48 ≤ b.toNat ∧ b.toNat ≤ 57) : dgB (yearU (numO [a, b] : Nat) / 10) = a ∧ dgB (yearU (numO [a, b] : Nat)) = b ∧ 1950 ≤ yearU (numO [a, b] : Nat) ∧ yearU (numO [a, b] : Nat) ≤ 2049 := by
  have e : numO [a, b] = (0 * 10 + a.toNat % 16) * 10 + b.toNat % 16 := rfl
  rw [e]
  unfold yearU
  split
  · exact ⟨dgB_eq ha (by omega), dgB_eq hb (by omega), by omega, by omega⟩
  · exact ⟨dgB_eq ha (by omega), dgB_eq hb (by omega), by omega, by omega⟩
theorem len_cons {x : UInt8} {l : List UInt8} {n : Nat} (h : (x :: l).length = n + 1) : l.length = n := by simpa using h
theorem not_nil {n : Nat} (h : ([] : List UInt8).length = n + 1) : False := by cases h
set_option maxRecDepth 100000 in
theorem gen_of {l : List UInt8} (h : good 4 l) : genL (candG l) = l := by
  obtain ⟨hl, hz, hd⟩ := h
  rcases l with _ | ⟨x0, l⟩
  · exact (not_nil hl).elim
  replace hl := len_cons hl
  rcases l with _ | ⟨x1, l⟩
  · exact (not_nil hl).elim
  replace hl := len_cons hl
  rcases l with _ | ⟨x2, l⟩
  · exact (not_nil hl).elim
  replace hl := len_cons hl
  rcases l with _ | ⟨x3, l⟩
  · exact (not_nil hl).elim
  replace hl := len_cons hl
  rcases l with _ | ⟨x4, l⟩
  · exact (not_nil hl).elim
  replace hl := len_cons hl
  rcases l with _ | ⟨x5, l⟩
  · exact (not_nil hl).elim
  replace hl := len_cons hl
  rcases l with _ | ⟨x6, l⟩
  · exact (not_nil hl).elim
  replace hl := len_cons hl
  rcases l with _ | ⟨x7, l⟩
  · exact (not_nil hl).elim
  replace hl := len_cons hl
  rcases l with _ | ⟨x8, l⟩
  · exact (not_nil hl).elim
  replace hl := len_cons hl
  rcases l with _ | ⟨x9, l⟩
  · exact (not_nil hl).elim
  replace hl := len_cons hl
  rcases l with _ | ⟨x10, l⟩
  · exact (not_nil hl).elim
  replace hl := len_cons hl
  rcases l with _ | ⟨x11, l⟩
  · exact (not_nil hl).elim
  replace hl := len_cons hl
  rcases l with _ | ⟨x12, l⟩
  · exact (not_nil hl).elim
  replace hl := len_cons hl
  rcases l with _ | ⟨x13, l⟩
  · exact (not_nil hl).elim
  replace hl := len_cons hl
  rcases l with _ | ⟨x14, l⟩
  · exact (not_nil hl).elim
  replace hl := len_cons hl
  have hn := List.eq_nil_of_length_eq_zero hl
  subst hn
  have hz' : some x14 = some (90 : UInt8) := hz
  injection hz' with hz'
  subst hz'
  have hd' : [x0, x1, x2, x3, x4, x5, x6, x7, x8, x9, x10, x11, x12, x13].all isDg = true := hd
  simp only [List.all_cons, List.all_nil, Bool.and_true, Bool.and_eq_true, isDg_iff] at hd'
  obtain ⟨d0, d1, d2, d3, d4, d5, d6, d7, d8, d9, d10, d11, d12, d13⟩ := hd'
  obtain ⟨e0, e1, e2, e3⟩ := four_dg d0 d1 d2 d3
  obtain ⟨e4, e5⟩ := two_dg d4 d5
  obtain ⟨e6, e7⟩ := two_dg d6 d7
  obtain ⟨e8, e9⟩ := two_dg d8 d9
  obtain ⟨e10, e11⟩ := two_dg d10 d11
  obtain ⟨e12, e13⟩ := two_dg d12 d13
  show [dgB (((numO [x0, x1, x2, x3] : Nat) : Int) / 10 / 10 / 10), dgB (((numO [x0, x1, x2, x3] : Nat) : Int) / 10 / 10), dgB (((numO [x0, x1, x2, x3] : Nat) : Int) / 10), dgB ((numO [x0, x1, x2, x3] : Nat) : Int), dgB (((numO [x4, x5] : Nat) : Int) / 10), dgB ((numO [x4, x5] : Nat) : Int), dgB (((numO [x6, x7] : Nat) : Int) / 10), dgB ((numO [x6, x7] : Nat) : Int), dgB (((numO [x8, x9] : Nat) : Int) / 10), dgB ((numO [x8, x9] : Nat) : Int), dgB (((numO [x10, x11] : Nat) : Int) / 10), dgB ((numO [x10, x11] : Nat) : Int), dgB (((numO [x12, x13] : Nat) : Int) / 10), dgB ((numO [x12, x13] : Nat) : Int), 90] = _
  rw [e0, e1, e2, e3, e4, e5, e6, e7, e8, e9, e10, e11, e12, e13]
set_option maxRecDepth 100000 in
theorem utc_of {l : List UInt8} (h : good 2 l) : utcL (candU l) = l ∧ 1950 ≤ (candU l).y ∧ (candU l).y ≤ 2049 := by
  obtain ⟨hl, hz, hd⟩ := h
  rcases l with _ | ⟨x0, l⟩
  · exact (not_nil hl).elim
  replace hl := len_cons hl
  rcases l with _ | ⟨x1, l⟩
  · exact (not_nil hl).elim
  replace hl := len_cons hl
  rcases l with _ | ⟨x2, l⟩
  · exact (not_nil hl).elim
  replace hl := len_cons hl
  rcases l with _ | ⟨x3, l⟩
  · exact (not_nil hl).elim
  replace hl := len_cons hl
  rcases l with _ | ⟨x4, l⟩
  · exact (not_nil hl).elim
  replace hl := len_cons hl
  rcases l with _ | ⟨x5, l⟩
  · exact (not_nil hl).elim
  replace hl := len_cons hl
  rcases l with _ | ⟨x6, l⟩
  · exact (not_nil hl).elim
  replace hl := len_cons hl
  rcases l with _ | ⟨x7, l⟩
  · exact (not_nil hl).elim
  replace hl := len_cons hl
  rcases l with _ | ⟨x8, l⟩
  · exact (not_nil hl).elim
  replace hl := len_cons hl
  rcases l with _ | ⟨x9, l⟩
  · exact (not_nil hl).elim
  replace hl := len_cons hl
  rcases l with _ | ⟨x10, l⟩
  · exact (not_nil hl).elim
  replace hl := len_cons hl
  rcases l with _ | ⟨x11, l⟩
  · exact (not_nil hl).elim
  replace hl := len_cons hl
  rcases l with _ | ⟨x12, l⟩
  · exact (not_nil hl).elim
  replace hl := len_cons hl
  have hn := List.eq_nil_of_length_eq_zero hl
  subst hn
  have hz' : some x12 = some (90 : UInt8) := hz
  injection hz' with hz'
  subst hz'
  have hd' : [x0, x1, x2, x3, x4, x5, x6, x7, x8, x9, x10, x11].all isDg = true := hd
  simp only [List.all_cons, List.all_nil, Bool.and_true, Bool.and_eq_true, isDg_iff] at hd'
  obtain ⟨d0, d1, d2, d3, d4, d5, d6, d7, d8, d9, d10, d11⟩ := hd'
  obtain ⟨e0, e1, ey1, ey2⟩ := year_dg d0 d1
  obtain ⟨e2, e3⟩ := two_dg d2 d3
  obtain ⟨e4, e5⟩ := two_dg d4 d5
  obtain ⟨e6, e7⟩ := two_dg d6 d7
  obtain ⟨e8, e9⟩ := two_dg d8 d9
  obtain ⟨e10, e11⟩ := two_dg d10 d11
  refine ⟨?_, ey1, ey2⟩
  show [dgB ((yearU (numO [x0, x1] : Nat)) / 10), dgB (yearU (numO [x0, x1] : Nat)), dgB (((numO [x2, x3] : Nat) : Int) / 10), dgB ((numO [x2, x3] : Nat) : Int), dgB (((numO [x4, x5] : Nat) : Int) / 10), dgB ((numO [x4, x5] : Nat) : Int), dgB (((numO [x6, x7] : Nat) : Int) / 10), dgB ((numO [x6, x7] : Nat) : Int), dgB (((numO [x8, x9] : Nat) : Int) / 10), dgB ((numO [x8, x9] : Nat) : Int), dgB (((numO [x10, x11] : Nat) : Int) / 10), dgB ((numO [x10, x11] : Nat) : Int), 90] = _
  rw [e0, e1, e2, e3, e4, e5, e6, e7, e8, e9, e10, e11]
theorem decG_good {l : List UInt8} (h : good 4 l) (hok : okT (candG l) = true) : decG l = (candG l, 0) := by
  unfold decG genE
  rw [if_pos hok]
  exact if_pos ⟨rfl, eqB_iff.2 (gen_of h)⟩
theorem decG_bad {l : List UInt8} (h : ¬ (good 4 l ∧ okT (candG l) = true)) : decG l = (tm0, 6) := by
  unfold decG genE
  apply if_neg
  rintro ⟨h1, h2⟩
  rcases hok : okT (candG l) with _ | _
  · rw [hok] at h1
    cases h1
  · rw [hok, if_pos rfl] at h2
    have h3 : genL (candG l) = l := eqB_iff.1 h2
    exact h ⟨by rw [← h3]; exact good_gen _, hok⟩
theorem decU_good {l : List UInt8} (h : good 2 l) (hok : okT (candU l) = true) : decU l = (candU l, 0) := by
  obtain ⟨h1, h2, h3⟩ := utc_of h
  unfold decU utcE
  rw [if_pos hok, if_neg (show ¬ ((candU l).y < 1950 ∨ 2049 < (candU l).y) by omega)]
  exact if_pos ⟨rfl, eqB_iff.2 h1⟩
theorem decU_bad {l : List UInt8} (h : ¬ (good 2 l ∧ okT (candU l) = true)) : decU l = (tm0, 6) := by
  unfold decU utcE
  apply if_neg
  rintro ⟨h1, h2⟩
  rcases hok : okT (candU l) with _ | _
  · rw [hok] at h1
    cases h1
  · rw [hok, if_pos rfl] at h1 h2
    by_cases hy : (candU l).y < 1950 ∨ 2049 < (candU l).y
    · rw [if_pos hy] at h1
      cases h1
    · rw [if_neg hy] at h2
      have h3 : utcL (candU l) = l := eqB_iff.1 h2
      exact h ⟨by rw [← h3]; exact good_utc _, hok⟩
/-- what is returned of a candidate -/
def ckd (b : Bool) (T : Tm) : Tm × Int := if b = true ∧ okT T = true then (T, 0) else (tm0, 6)
theorem ckd_G {l : List UInt8} {T : Tm} {b : Bool} (h1 : b = true → good 4 l ∧ T = fldO (numO (l.take 4)) l 4) (h2 : b = false → ¬ good 4 l) : ckd b T = decG l := by
  unfold ckd
  rcases b with _ | _
  · rw [if_neg (by simp), decG_bad (fun h => h2 rfl h.1)]
  · obtain ⟨hg, rfl⟩ := h1 rfl
    by_cases hok : okT (candG l) = true
    · rw [decG_good hg hok]
      exact if_pos ⟨rfl, hok⟩
    · rw [decG_bad (fun h => hok h.2)]
      exact if_neg (fun h => hok h.2)
theorem ckd_U {l : List UInt8} {T : Tm} {b : Bool} (h1 : b = true → good 2 l ∧ T = fldO (numO (l.take 2)) l 2) (h2 : b = false → ¬ good 2 l) : ckd b ⟨yearU T.y, T.m, T.d, T.h, T.i, T.s⟩ = decU l := by
  unfold ckd
  rcases b with _ | _
  · rw [if_neg (by simp), decU_bad (fun h => h2 rfl h.1)]
  · obtain ⟨hg, rfl⟩ := h1 rfl
    by_cases hok : okT (candU l) = true
    · rw [decU_good hg hok]
      exact if_pos ⟨rfl, hok⟩
    · rw [decU_bad (fun h => hok h.2)]
      exact if_neg (fun h => hok h.2)
end Go.Proofs.YtneeddbonhiflaaDoor
