/-
  Plain mathematics of the tlv layer: reading inverts writing; no element is a prefix of another one.
-/
import Derived.Test.YtgccjdhkpgmnoaaHeadMath
namespace Go.Proofs.Ytgccjdhkpgmnoaa

theorem digits_pos {n : Nat} (h : n < 18446744073709551616) : 1 ≤ (digits n).length := by rw [digits_len]; exact (ndig_bd h).1
theorem rdLen_lenOct {n : Nat} (h : n ≤ 2147483647) (r : List UInt8) : rdLen (lenOct n ++ r) = ⟨n, (lenOct n).length, 0, 0⟩ := by
  by_cases hs : n < 128
  · rw [lenOct_short hs, digits_small (by omega)]
    have e : (UInt8.ofNat n).toNat = n := by rw [UInt8.toNat_ofNat']; omega
    show rdLen (UInt8.ofNat n :: r) = _
    rw [rdLen_short (by rw [e]; exact hs), e]
    rfl
  · have hd := ndig_bd (n := n) (by omega)
    have hd4 := ndig_le4 h
    have hv : (lenHead (ndig n)).toNat = 128 + ndig n := by have := lenHead_val hd.2; omega
    have hdl := digits_len n
    have ht : (digits n ++ r).take (ndig n) = digits n := by rw [← hdl, List.take_left']; rfl
    have hb := bnum_digits n (by omega)
    have hl := lenOct_len hs
    rw [lenOct_long hs]
    show rdLen (lenHead (ndig n) :: (digits n ++ r)) = _
    rw [rdLen_long hv hd.1 hd4, if_neg (by rw [List.length_append, hdl]; omega), ht, hb, if_pos ⟨h, hl⟩, List.length_cons, hdl]

theorem idByte_val {c n : Nat} (hc : c ≤ 3) (hn : n ≤ 30) (k : Bool) : (idByte c n k).toNat = c * 64 + n + (if k then 32 else 0) := by
  unfold idByte
  rw [UInt8.toNat_ofNat']
  cases k
  · simp; omega
  · simp; omega
theorem idByte_ok {c n : Nat} (hc : c ≤ 3) (hn : n ≤ 30) (k : Bool) : idOk (idByte c n k) = true ∧ (idByte c n k).toNat / 64 = c ∧ (idByte c n k).toNat % 32 = n ∧ ((idByte c n k).toNat / 32 % 2 == 1) = k := by
  have h := idByte_val hc hn k
  unfold idOk
  rw [h]
  cases k
  · simp
    omega
  · simp
    omega
theorem idByte_read {x : UInt8} (h : idOk x = true) : idByte (x.toNat / 64) (x.toNat % 32) (x.toNat / 32 % 2 == 1) = x ∧ x.toNat / 64 ≤ 3 ∧ x.toNat % 32 ≤ 30 := by
  have hx := x.toNat_lt
  simp [idOk] at h
  refine ⟨?_, by omega, by omega⟩
  apply UInt8.toNat_inj.1
  rw [idByte_val (by omega) (by omega)]
  by_cases hb : x.toNat / 32 % 2 = 1
  · rw [show (x.toNat / 32 % 2 == 1) = true from by simpa using hb]
    simp
    omega
  · rw [show (x.toNat / 32 % 2 == 1) = false from by simpa using hb]
    simp
    omega

theorem rdHead_enc {c n m : Nat} (hc : c ≤ 3) (hn : n ≤ 30) (k : Bool) (hm : m ≤ 2147483647) (r : List UInt8) : rdHead (idByte c n k :: (lenOct m ++ r)) = ⟨c, n, k, m, (lenOct m).length + 1, 0, 0⟩ := by
  obtain ⟨h1, h2, h3, h4⟩ := idByte_ok hc hn k
  have hl := rdLen_lenOct hm r
  rw [rdHead_ok h1 (by rw [hl]), hl, h2, h3, h4]
theorem rdNext_enc {c n : Nat} (hc : c ≤ 3) (hn : n ≤ 30) (k : Bool) {l : List UInt8} (hm : l.length ≤ 2147483647) (r : List UInt8) :
    rdNext (encB c n k l ++ r) = ⟨⟨c, n, k, l.length, (lenOct l.length).length + 1, 0, 0⟩, l, r⟩ := by
  have e : encB c n k l ++ r = idByte c n k :: (lenOct l.length ++ (l ++ r)) := by unfold encB; simp
  have h := rdHead_enc hc hn k hm (l ++ r)
  have hlen : (idByte c n k :: (lenOct l.length ++ (l ++ r))).length = (lenOct l.length).length + 1 + (l.length + r.length) := by simp; omega
  have hdrop : (idByte c n k :: (lenOct l.length ++ (l ++ r))).drop ((lenOct l.length).length + 1) = l ++ r := by
    rw [List.drop_succ_cons, List.drop_left']
    rfl
  rw [e]
  unfold rdNext
  rw [h]
  simp only []
  rw [if_pos trivial, hlen, if_neg (by omega), hdrop, List.take_left' rfl, List.drop_left' rfl]

/-- what is read is written so -/
theorem enc_of_next {l : List UInt8} (h : (rdNext l).h.code = 0) :
    (rdNext l).h.cls ≤ 3 ∧ (rdNext l).h.num ≤ 30 ∧ (rdNext l).h.off = 0 ∧ encB (rdNext l).h.cls (rdNext l).h.num (rdNext l).h.con (rdNext l).cont ++ (rdNext l).rest = l := by
  unfold rdNext at h ⊢
  by_cases hq : (rdHead l).code = 0
  · rw [if_pos hq] at h ⊢
    by_cases hs : l.length - (rdHead l).size < (rdHead l).len
    · rw [if_pos hs] at h
      simp [noHd] at h
    · rw [if_neg hs]
      simp only []
      rcases l with _ | ⟨x, r⟩
      · exact absurd hq (by decide)
      · by_cases h1 : idOk x = false
        · rw [rdHead_tag h1] at hq
          exact absurd hq (by decide)
        · have h1' : idOk x = true := by simpa using h1
          by_cases h2 : (rdLen r).code = 0
          · obtain ⟨g1, g2, g3⟩ := idByte_read h1'
            obtain ⟨r1, r2, r3, r4⟩ := rdLen_ok h2
            rw [rdHead_ok h1' h2] at hs ⊢
            simp only [List.length_cons] at hs
            simp only []
            refine ⟨g2, g3, trivial, ?_⟩
            have hl : ((r.drop (rdLen r).size).take (rdLen r).n).length = (rdLen r).n := by simp; omega
            rw [List.drop_succ_cons]
            unfold encB
            rw [g1, hl, r1, List.cons_append, List.append_assoc, List.take_append_drop, List.take_append_drop]
          · rw [rdHead_len h1' h2] at hq
            exact absurd hq h2
  · rw [if_neg hq] at h
    exact absurd h hq
theorem within_next {l : List UInt8} (h : ¬ (rdNext l).h.code = 0) : (rdNext l).h.off ≤ l.length ∧ (rdNext l).cont = [] ∧ (rdNext l).rest = [] := by
  unfold rdNext at h ⊢
  by_cases hq : (rdHead l).code = 0
  · rw [if_pos hq] at h ⊢
    by_cases hs : l.length - (rdHead l).size < (rdHead l).len
    · rw [if_pos hs]
      exact ⟨Nat.le_refl _, rfl, rfl⟩
    · rw [if_neg hs] at h
      exact absurd hq h
  · rw [if_neg hq]
    refine ⟨?_, rfl, rfl⟩
    rcases l with _ | ⟨x, r⟩
    · decide
    · by_cases h1 : idOk x = false
      · rw [rdHead_tag h1]
        exact Nat.zero_le _
      · have h1' : idOk x = true := by simpa using h1
        by_cases h2 : (rdLen r).code = 0
        · rw [rdHead_ok h1' h2] at hq
          exact absurd rfl hq
        · rw [rdHead_len h1' h2]
          have := rdLen_bd r
          show (rdLen r).off + 1 ≤ r.length + 1
          omega
theorem next_lens (l : List UInt8) : (rdNext l).cont.length + (rdNext l).rest.length ≤ l.length := by
  unfold rdNext
  split
  · split
    · simp
    · simp; omega
  · simp

/-- of two elements none begins with the other one -/
theorem enc_prefix {c n c' n' : Nat} {k k' : Bool} {l l' r : List UInt8} (hc : c ≤ 3) (hn : n ≤ 30) (hc' : c' ≤ 3) (hn' : n' ≤ 30) (hl : l.length ≤ 2147483647) (hl' : l'.length ≤ 2147483647) (h : encB c' n' k' l' = encB c n k l ++ r) : c = c' ∧ n = n' ∧ k = k' ∧ l = l' := by
  have h1 := rdNext_enc hc hn k hl r
  have h2 := rdNext_enc hc' hn' k' hl' []
  rw [List.append_nil, h, h1] at h2
  injection h2 with e1 e2 e3
  injection e1 with e4 e5 e6
  exact ⟨e4, e5, e6, e2⟩
theorem enc_take {c n c' n' : Nat} {k k' : Bool} {l l' : List UInt8} (hc : c ≤ 3) (hn : n ≤ 30) (hc' : c' ≤ 3) (hn' : n' ≤ 30) (hl : l.length ≤ 2147483647) (hl' : l'.length ≤ 2147483647) {m : Nat}
    (hm : m = min (encB c n k l).length (encB c' n' k' l').length) (h : (encB c n k l).take m = (encB c' n' k' l').take m) : c = c' ∧ n = n' ∧ k = k' ∧ l = l' := by
  subst hm
  rcases Nat.le_total (encB c n k l).length (encB c' n' k' l').length with hle | hle
  · rw [Nat.min_eq_left hle, List.take_length] at h
    have e : encB c' n' k' l' = encB c n k l ++ (encB c' n' k' l').drop (encB c n k l).length := by
      conv => rhs; lhs; rw [h]
      rw [List.take_append_drop]
    exact enc_prefix hc hn hc' hn' hl hl' e
  · rw [Nat.min_eq_right hle, List.take_length] at h
    have e : encB c n k l = encB c' n' k' l' ++ (encB c n k l).drop (encB c' n' k' l').length := by
      conv => rhs; lhs; rw [← h]
      rw [List.take_append_drop]
    obtain ⟨a, b, d, f⟩ := enc_prefix hc' hn' hc hn hl' hl e
    exact ⟨a.symm, b.symm, d.symm, f.symm⟩
end Go.Proofs.Ytgccjdhkpgmnoaa
