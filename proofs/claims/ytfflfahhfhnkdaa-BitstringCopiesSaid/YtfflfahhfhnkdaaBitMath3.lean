/-
  Plain mathematics of the bit string layer: the contents octets of sets of named bits, and what they are decoded as.
-/
import Derived.Test.YtfflfahhfhnkdaaBitMath2
namespace Go.Proofs.Ytfflfahhfhnkdaa

def topN (n : Nat) : Nat := Nat.log2 n
theorem top_lo {n : Nat} (h : n ≠ 0) : 2 ^ topN n ≤ n := Nat.log2_self_le h
theorem top_hi (n : Nat) : n < 2 ^ (topN n + 1) := Nat.lt_log2_self
theorem top_is {n t : Nat} (h : 2 ^ t ≤ n) (h2 : n < 2 ^ (t + 1)) : topN n = t := by
  have h0 : n ≠ 0 := by have := Nat.two_pow_pos t; omega
  exact (Nat.log2_eq_iff h0).2 ⟨h, h2⟩
theorem top_below {n m : Nat} (h0 : n ≠ 0) (h : n < 2 ^ m) : topN n < m := by
  have h1 := top_lo h0
  exact (Nat.pow_lt_pow_iff_right (by omega)).1 (Nat.lt_of_le_of_lt h1 h)
theorem top_above {n m : Nat} (h : 2 ^ m ≤ n) : m ≤ topN n := by
  have h1 := top_hi n
  have h2 : m < topN n + 1 := (Nat.pow_lt_pow_iff_right (by omega)).1 (Nat.lt_of_le_of_lt h h1)
  omega
/-- the octets of a set, without the first one -/
def namB (n : Nat) : List UInt8 := if n = 0 then [] else bytesF (bN n) (topN n / 8 + 1)
/-- how many bits are unused -/
def namU (n : Nat) : Nat := if n = 0 then 0 else 7 - topN n % 8
def namO (n : Nat) : List UInt8 := UInt8.ofNat (namU n) :: namB n
theorem namB_zero : namB 0 = [] := rfl
theorem namU_zero : namU 0 = 0 := rfl
theorem namB_pos {n : Nat} (h : n ≠ 0) : namB n = bytesF (bN n) (topN n / 8 + 1) := if_neg h
theorem namU_pos {n : Nat} (h : n ≠ 0) : namU n = 7 - topN n % 8 := if_neg h
theorem namU_le (n : Nat) : namU n ≤ 7 := by unfold namU; split <;> omega
theorem nam_valid (n : Nat) : vB (namB n) (namU n) = true := by
  by_cases h : n = 0
  · subst h
    exact vB_nil
  · refine valid_bits (namU_le n) (fun e => ?_) (fun i hi hi2 => ?_)
    · have := congrArg List.length e
      rw [namB_pos h, bytesF_len, List.length_nil] at this
      omega
    · rw [namB_pos h, bytesF_len] at hi hi2
      rw [namU_pos h] at hi2
      rw [namB_pos h, bitL_bytesF hi]
      exact bN_high (top_hi n) (by omega)
theorem nam_len {n : Nat} (h : n ≠ 0) : 8 * (namB n).length = topN n + 1 + namU n := by
  rw [namB_pos h, bytesF_len, namU_pos h]
  omega
theorem decBits_nam (n : Nat) : decBits (namO n) = some (namB n, namU n) := by
  have h := decBits_enc (nam_valid n)
  rw [show ((namU n : Nat) : Int).toNat = namU n by omega] at h
  exact h
theorem encBits_nam (n : Nat) : encBits (namB n) (namU n) = some (namO n) := encBits_dec (decBits_nam n)
/-- how many bits the bit string of a set has -/
def namN (n : Nat) : Nat := if n = 0 then 0 else topN n + 1
theorem lenB_nam (n : Nat) : lenB (namB n) (namU n) = namN n := by
  unfold lenB namN
  rw [if_pos (nam_valid n)]
  split
  · rename_i h
    subst h
    rfl
  · rename_i h
    have := nam_len h
    omega
theorem namN_hi (n : Nat) : n < 2 ^ namN n := by
  unfold namN
  split
  · rename_i h
    subst h
    decide
  · exact top_hi n
theorem bit_nam {n i : Nat} (h : i < namN n) : bitL (namB n) i = bN n i := by
  unfold namN at h
  split at h
  · omega
  · rename_i h0
    rw [namB_pos h0, bitL_bytesF (by omega)]
theorem at_nam (n : Nat) (i : Nat) : atB (namB n) (namU n) i = bN n i := by
  unfold atB
  rw [lenB_nam]
  by_cases h : i < namN n
  · rw [show ((i : Nat) : Int).toNat = i by omega, bit_nam h, decide_eq_true (by omega)]
    rfl
  · rw [decide_eq_false (by omega), bN_high (namN_hi n) (by omega)]
    rfl
theorem namN_le {n m : Nat} (h : n < 2 ^ m) : namN n ≤ m := by
  unfold namN
  split
  · omega
  · rename_i h0
    exact top_below h0 h

/-! ### as the functions answer -/
def encNam (n most : Int) : Option (List UInt8) := if 1 ≤ most ∧ most ≤ 32 ∧ 0 ≤ n ∧ n.toNat < 2 ^ most.toNat then some (namO n.toNat) else none
def decNam (c : List UInt8) (most : Int) : Option Nat :=
  if 1 ≤ most ∧ most ≤ 32 then
    match decBits c with
    | none => none
    | some (l, u) => if 8 * l.length ≤ most.toNat + u ∧ (l = [] ∨ bitL l (8 * l.length - u - 1) = true) then some (setTo (bitL l) (8 * l.length - u)) else none
  else none
theorem decNam_out {c : List UInt8} {most : Int} (h : ¬ (1 ≤ most ∧ most ≤ 32)) : decNam c most = none := if_neg h
theorem decNam_none {c : List UInt8} {most : Int} (h : decBits c = none) : decNam c most = none := by
  unfold decNam
  rw [h]
  split <;> rfl
theorem decNam_of {c l : List UInt8} {u : Nat} {most : Int} (h1 : 1 ≤ most ∧ most ≤ 32) (h : decBits c = some (l, u)) :
    decNam c most = if 8 * l.length ≤ most.toNat + u ∧ (l = [] ∨ bitL l (8 * l.length - u - 1) = true) then some (setTo (bitL l) (8 * l.length - u)) else none := by
  unfold decNam
  rw [h, if_pos h1]
theorem decNam_nam {n : Nat} {most : Int} (h1 : 1 ≤ most) (h2 : most ≤ 32) (h : n < 2 ^ most.toNat) : decNam (namO n) most = some n := by
  rw [decNam_of ⟨h1, h2⟩ (decBits_nam n)]
  by_cases h0 : n = 0
  · subst h0
    rw [if_pos]
    · rfl
    · rw [namB_zero, List.length_nil]
      exact ⟨by omega, .inl rfl⟩
  · have ht := top_below h0 h
    have hl := nam_len h0
    have he : 8 * (namB n).length - namU n = topN n + 1 := by omega
    rw [he, if_pos]
    · have hc : setTo (bitL (namB n)) (topN n + 1) = setTo (bN n) (topN n + 1) := setTo_congr _ (fun i hi => bit_nam (by unfold namN; rw [if_neg h0]; exact hi))
      rw [hc, setTo_num, Nat.mod_eq_of_lt (top_hi n)]
    · refine ⟨by omega, .inr ?_⟩
      rw [Nat.add_sub_cancel, bit_nam (by unfold namN; rw [if_neg h0]; omega)]
      exact bN_top (top_lo h0) (top_hi n)
theorem decNam_some {c : List UInt8} {most : Int} {s : Nat} (h : decNam c most = some s) : namO s = c ∧ s < 2 ^ most.toNat ∧ 1 ≤ most ∧ most ≤ 32 := by
  by_cases hm : 1 ≤ most ∧ most ≤ 32
  · rcases hd : decBits c with _ | ⟨l, u⟩
    · rw [decNam_none hd] at h
      cases h
    · rw [decNam_of hm hd] at h
      split at h
      · rename_i hc
        injection h with h
        obtain ⟨hv, hu, rfl⟩ := decBits_some hd
        have hlt : s < 2 ^ (8 * l.length - u) := by rw [← h]; exact setTo_lt _ _
        refine ⟨?_, Nat.lt_of_lt_of_le hlt (Nat.pow_le_pow_right (by omega) (by omega)), hm⟩
        obtain ⟨hc1, hc2⟩ := hc
        by_cases hl : l = []
        · subst hl
          obtain rfl : u = 0 := by have := (vB_true.1 hv).2.2.1 rfl; omega
          subst h
          rfl
        · have hb := hc2.resolve_left hl
          have hlen : 0 < l.length := List.length_pos_iff.2 hl
          obtain ⟨t, ht⟩ : ∃ t, 8 * l.length - u = t + 1 := ⟨8 * l.length - u - 1, by omega⟩
          rw [ht] at h hlt hb
          rw [Nat.add_sub_cancel] at hb
          have hbt : bN s t = true := by rw [← h, bN_setTo (by omega)]; exact hb
          have hlo : 2 ^ t ≤ s := by
            by_cases hx : 2 ^ t ≤ s
            · exact hx
            · rw [bN_high (i := t) (by omega) (Nat.le_refl _)] at hbt
              cases hbt
          have htop := top_is hlo hlt
          have hs0 : s ≠ 0 := by have := Nat.two_pow_pos t; omega
          have hU : namU s = u := by rw [namU_pos hs0, htop]; omega
          have hB : namB s = l := by
            rw [namB_pos hs0, htop, show t / 8 + 1 = l.length by omega]
            have hcg : bytesF (bN s) l.length = bytesF (bitL l) l.length := by
              apply bytesF_congr
              intro i hi
              by_cases hit : i < t + 1
              · rw [← h, bN_setTo hit]
              · rw [bN_high hlt (by omega), unused_zero hv (by omega)]
            rw [hcg, bytesF_bits]
          unfold namO
          rw [hU, hB]
      · cases h
  · rw [decNam_out hm] at h
    cases h
/-- what the bits of contents octets, taken one by one, come to -/
def bitsOf (c : List UInt8) : List UInt8 × Nat := (decBits c).getD ([], 0)
def takN (c : List UInt8) (m : Nat) : Nat := setTo (fun i => atB (bitsOf c).1 (bitsOf c).2 i) m
theorem takN_lt (c : List UInt8) (m : Nat) : takN c m < 2 ^ m := setTo_lt _ _
theorem takN_dec {c : List UInt8} {most : Int} {s : Nat} (h : decNam c most = some s) : takN c most.toNat = s := by
  obtain ⟨hc, hlt, h1, h2⟩ := decNam_some h
  have hb : bitsOf c = (namB s, namU s) := by
    unfold bitsOf
    rw [← hc, decBits_nam]
    rfl
  unfold takN
  rw [hb]
  show setTo (fun i => atB (namB s) (namU s) i) most.toNat = s
  rw [setTo_congr most.toNat (fun i _ => at_nam s i), setTo_num, Nat.mod_eq_of_lt hlt]
theorem takN_some {c : List UInt8} {most : Int} (h1 : 1 ≤ most) (h2 : most ≤ 32) (h : namO (takN c most.toNat) = c) : decNam c most = some (takN c most.toNat) := by
  have h3 := decNam_nam h1 h2 (takN_lt c most.toNat)
  rw [h] at h3
  exact h3
theorem takN_none {c : List UInt8} {most : Int} (h : ¬ namO (takN c most.toNat) = c) : decNam c most = none := by
  rcases hd : decNam c most with _ | s
  · rfl
  · exfalso
    have h3 := takN_dec hd
    rw [h3] at h
    exact h (decNam_some hd).1
theorem encNam_ok {n most : Int} (h : 1 ≤ most ∧ most ≤ 32 ∧ 0 ≤ n ∧ n.toNat < 2 ^ most.toNat) : encNam n most = some (namO n.toNat) := if_pos h
theorem encNam_bad {n most : Int} (h : ¬ (1 ≤ most ∧ most ≤ 32 ∧ 0 ≤ n ∧ n.toNat < 2 ^ most.toNat)) : encNam n most = none := if_neg h
theorem encNam_some {n most : Int} {c : List UInt8} (h : encNam n most = some c) : 1 ≤ most ∧ most ≤ 32 ∧ 0 ≤ n ∧ n.toNat < 2 ^ most.toNat ∧ c = namO n.toNat ∧ decNam c most = some n.toNat := by
  unfold encNam at h
  split at h
  · rename_i hc
    injection h with h
    exact ⟨hc.1, hc.2.1, hc.2.2.1, hc.2.2.2, h.symm, by rw [← h]; exact decNam_nam hc.1 hc.2.1 hc.2.2.2⟩
  · cases h
theorem encNam_dec {c : List UInt8} {most : Int} {s : Nat} (h : decNam c most = some s) : encNam s most = some c := by
  obtain ⟨hc, hlt, h1, h2⟩ := decNam_some h
  rw [encNam_ok ⟨h1, h2, by omega, by rw [show ((s : Nat) : Int).toNat = s by omega]; exact hlt⟩, show ((s : Nat) : Int).toNat = s by omega, hc]
/-- the members of a set -/
def memI (n : Int) : List Nat := if n < 0 then [] else memTo (bN n.toNat) 64
theorem memI_neg {n : Int} (h : n < 0) : memI n = [] := if_pos h
theorem memI_pos {n : Nat} : memI (n : Int) = memTo (bN n) 64 := by
  unfold memI
  rw [if_neg (by omega), show ((n : Nat) : Int).toNat = n by omega]
theorem memI_upto {n i : Nat} (h : n < 2 ^ i) (hi : i ≤ 64) : memI (n : Int) = memTo (bN n) i := by
  rw [memI_pos, memTo_upto h hi]
theorem memI_len (n : Int) : (memI n).length ≤ 64 := by
  unfold memI
  split
  · simp
  · exact memTo_len _ _
theorem memI_top {n : Nat} (h0 : n ≠ 0) (h : n < 2 ^ 64) : memI (n : Int) = memTo (bN n) (topN n) ++ [topN n] := by
  rw [memI_pos, memTo_top (top_lo h0) (top_hi n) (top_below h0 h)]
end Go.Proofs.Ytfflfahhfhnkdaa
