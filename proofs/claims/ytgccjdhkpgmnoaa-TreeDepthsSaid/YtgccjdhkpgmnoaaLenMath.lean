/-
  Plain mathematics: length octets.
-/
import Derived.Test.YtgccjdhkpgmnoaaNumMath
import Derived.Test.YtgccjdhkpgmnoaaMinMath
namespace Go.Proofs.Ytgccjdhkpgmnoaa

/-- the first octet of the long form -/
def lenHead (k : Nat) : UInt8 := UInt8.ofNat (128 + k)
theorem lenHead_val {k : Nat} (h : k ≤ 8) : ((lenHead k).toNat : Int) = 128 + k := by
  unfold lenHead
  rw [UInt8.toNat_ofNat']
  omega
/-- the length octets of n -/
def lenOct (n : Nat) : List UInt8 := if n < 128 then digits n else lenHead (ndig n) :: digits n
theorem lenOct_short {n : Nat} (h : n < 128) : lenOct n = digits n := by unfold lenOct; rw [if_pos h]
theorem lenOct_long {n : Nat} (h : ¬ n < 128) : lenOct n = lenHead (ndig n) :: digits n := by unfold lenOct; rw [if_neg h]
theorem lenOct_len {n : Nat} (h : ¬ n < 128) : (lenOct n).length = ndig n + 1 := by rw [lenOct_long h, List.length_cons, digits_len]

/-- the last digits of a number that has these digits -/
theorem dg_bnum (k : Nat) : ∀ l : List UInt8, l.length = k → dg k (bnum l) = l := by
  induction k with
  | zero => intro l h; rw [List.eq_nil_of_length_eq_zero h]; rfl
  | succ k ih =>
    intro l h
    have hne : l ≠ [] := by intro e; rw [e] at h; simp at h
    obtain ⟨r, x, rfl⟩ : ∃ r x, l = r ++ [x] := ⟨l.dropLast, l.getLast hne, (List.dropLast_concat_getLast hne).symm⟩
    have hr : r.length = k := by simp at h; omega
    have hx := x.toNat_lt
    rw [bnum_snoc]
    unfold dg
    rw [show (bnum r * 256 + x.toNat) / 256 = bnum r from by omega, ih r hr]
    congr 2
    apply UInt8.toNat_inj.1
    rw [UInt8.toNat_ofNat']
    omega
theorem digits_bnum {l : List UInt8} (h : ndig (bnum l) = l.length) : digits (bnum l) = l := by
  unfold digits
  rw [h]
  exact dg_bnum _ l rfl
theorem bnum_digits (n : Nat) : n < 18446744073709551616 → bnum (digits n) = n := by
  induction n using Nat.strongRecOn with
  | _ n ih =>
  intro hn
  by_cases h : n < 256
  · rw [digits_small h, show [UInt8.ofNat n] = [] ++ [UInt8.ofNat n] from rfl, bnum_snoc, bnum_nil]
    simp
    omega
  · rw [digits_big (by omega) hn, bnum_snoc, ih (n / 256) (by omega) (by omega)]
    simp
    omega
theorem ndig_le4 {n : Nat} (h : n ≤ 2147483647) : ndig n ≤ 4 := by
  have := Lib.bitLen_le n 32 (by omega) (by omega)
  unfold ndig
  omega
theorem lenOct_bd {n : Nat} (h : n ≤ 2147483647) : 1 ≤ (lenOct n).length ∧ (lenOct n).length ≤ 5 := by
  have h1 := ndig_bd (n := n) (by omega)
  have h2 := ndig_le4 h
  by_cases hs : n < 128
  · rw [lenOct_short hs, digits_len]; omega
  · rw [lenOct_len hs]; omega

/-- what is read at the beginning of l as length octets: the length, how many octets, the code of the error and its offset -/
structure RL where
  n : Nat
  size : Nat
  code : Nat
  off : Nat
def rdLen (l : List UInt8) : RL :=
  match l with
  | [] => ⟨0, 0, 1, 0⟩
  | x :: r =>
    if x.toNat < 128 then ⟨x.toNat, 1, 0, 0⟩
    else if x.toNat = 128 ∨ 132 < x.toNat then ⟨0, 0, 4, 0⟩
    else if r.length < x.toNat - 128 then ⟨0, 0, 1, r.length + 1⟩
    else if bnum (r.take (x.toNat - 128)) ≤ 2147483647 ∧ (lenOct (bnum (r.take (x.toNat - 128)))).length = x.toNat - 128 + 1 then ⟨bnum (r.take (x.toNat - 128)), x.toNat - 128 + 1, 0, 0⟩
    else ⟨0, 0, 4, 0⟩

theorem rdLen_short {x : UInt8} {r : List UInt8} (h : x.toNat < 128) : rdLen (x :: r) = ⟨x.toNat, 1, 0, 0⟩ := by
  unfold rdLen
  simp only []
  rw [if_pos h]
theorem rdLen_bad {x : UInt8} {r : List UInt8} (h : x.toNat = 128 ∨ 132 < x.toNat) : rdLen (x :: r) = ⟨0, 0, 4, 0⟩ := by
  unfold rdLen
  simp only []
  rw [if_neg (by omega), if_pos h]
theorem rdLen_long {x : UInt8} {r : List UInt8} {d : Nat} (hd : x.toNat = 128 + d) (h1 : 1 ≤ d) (h4 : d ≤ 4) :
    rdLen (x :: r) = if r.length < d then ⟨0, 0, 1, r.length + 1⟩ else if bnum (r.take d) ≤ 2147483647 ∧ (lenOct (bnum (r.take d))).length = d + 1 then ⟨bnum (r.take d), d + 1, 0, 0⟩ else ⟨0, 0, 4, 0⟩ := by
  unfold rdLen
  simp only []
  rw [if_neg (by omega), if_neg (by omega), show x.toNat - 128 = d from by omega]
theorem bnum_take_small {r : List UInt8} {j : Nat} (h : j ≤ 3) : bnum (r.take j) < 16777216 := by
  have h1 := bnum_lt (r.take j)
  have h2 : 256 ^ (r.take j).length ≤ 256 ^ 3 := Nat.pow_le_pow_right (by omega) (by simp; omega)
  have h4 : (256 : Nat) ^ 3 = 16777216 := by decide
  omega

theorem rdLen_bd (l : List UInt8) : (rdLen l).n ≤ 2147483647 ∧ (rdLen l).size ≤ 5 ∧ (rdLen l).code ≤ 4 ∧ (rdLen l).off ≤ 4 ∧ (rdLen l).size ≤ l.length ∧ (rdLen l).off ≤ l.length := by
  rcases l with _ | ⟨x, r⟩
  · exact ⟨by decide, by decide, by decide, by decide, by decide, by decide⟩
  · by_cases hs : x.toNat < 128
    · rw [rdLen_short hs]
      simp
      omega
    · by_cases hw : x.toNat = 128 ∨ 132 < x.toNat
      · rw [rdLen_bad hw]
        simp
      · rw [rdLen_long (d := x.toNat - 128) (by omega) (by omega) (by omega)]
        by_cases h1 : r.length < x.toNat - 128
        · rw [if_pos h1]
          simp
          omega
        · rw [if_neg h1]
          split
          · rename_i h
            simp
            omega
          · simp
/-- what is read has just these octets -/
theorem lenOct_read {x : UInt8} {r : List UInt8} {k n : Nat} (hx : x.toNat = 128 + k) (hk : k ≤ r.length) (hk1 : 1 ≤ k) (hn : bnum (r.take k) = n) (h : (lenOct n).length = k + 1) (hb : n ≤ 2147483647) : lenOct n = x :: r.take k := by
  have hs : ¬ n < 128 := by
    intro hs
    rw [lenOct_short hs, digits_small (by omega)] at h
    simp at h
    omega
  have hd : ndig n = k := by rw [lenOct_len hs] at h; omega
  rw [lenOct_long hs, hd]
  have e1 : lenHead k = x := by unfold lenHead; rw [← hx]; simp
  rw [e1]
  congr 1
  have := digits_bnum (l := r.take k) (by rw [hn, hd]; simp; omega)
  rw [hn] at this
  exact this
/-- what is read is written so -/
theorem rdLen_ok {l : List UInt8} (h : (rdLen l).code = 0) : lenOct (rdLen l).n = l.take (rdLen l).size ∧ (rdLen l).size ≤ l.length ∧ 1 ≤ (rdLen l).size ∧ (rdLen l).off = 0 := by
  rcases l with _ | ⟨x, r⟩
  · exact absurd h (by decide)
  · by_cases hs : x.toNat < 128
    · rw [rdLen_short hs]
      refine ⟨?_, by simp, by simp, rfl⟩
      show lenOct x.toNat = _
      rw [lenOct_short hs, digits_small (by omega)]
      simp
    · by_cases hw : x.toNat = 128 ∨ 132 < x.toNat
      · rw [rdLen_bad hw] at h
        exact absurd h (by decide)
      · obtain ⟨d, hd⟩ : ∃ d, x.toNat = 128 + d := ⟨x.toNat - 128, by omega⟩
        have hd1 : 1 ≤ d := by omega
        rw [rdLen_long hd hd1 (by omega)] at h ⊢
        by_cases h1 : r.length < d
        · rw [if_pos h1] at h
          simp at h
        · rw [if_neg h1] at h ⊢
          by_cases h2 : bnum (r.take d) ≤ 2147483647 ∧ (lenOct (bnum (r.take d))).length = d + 1
          · rw [if_pos h2]
            have e := lenOct_read hd (by omega) hd1 rfl h2.2 h2.1
            refine ⟨?_, by simp; omega, by simp, rfl⟩
            rw [List.take_succ_cons]
            exact e
          · rw [if_neg h2] at h
            simp at h
end Go.Proofs.Ytgccjdhkpgmnoaa
