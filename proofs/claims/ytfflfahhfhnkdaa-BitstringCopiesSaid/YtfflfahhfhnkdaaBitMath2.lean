/-
  Plain mathematics of the bit string layer: validity, contents octets, sets of named bits and their members.
-/
import Derived.Test.YtfflfahhfhnkdaaBitMath
namespace Go.Proofs.Ytfflfahhfhnkdaa

/-! ### bit strings -/
def lastO (l : List UInt8) : Nat := (l.getLast?.map UInt8.toNat).getD 0
theorem lastO_nil : lastO [] = 0 := rfl
theorem lastO_at {l : List UInt8} {n : Nat} (h : l.length = n + 1) : lastO l = (l[n]'(by omega)).toNat := by
  unfold lastO
  rw [List.getLast?_eq_getElem?, List.getElem?_eq_getElem (by omega)]
  simp only [h, Nat.add_sub_cancel, Option.map_some, Option.getD_some]
def vB (l : List UInt8) (u : Int) : Bool := decide (0 ≤ u ∧ u ≤ 7 ∧ (l = [] → u = 0) ∧ lastO l % 2 ^ u.toNat = 0)
def lenB (l : List UInt8) (u : Int) : Int := if vB l u = true then 8 * l.length - u else 0
def atB (l : List UInt8) (u i : Int) : Bool := decide (0 ≤ i ∧ i < lenB l u) && bitL l i.toNat
def encBits (l : List UInt8) (u : Int) : Option (List UInt8) := if vB l u = true then some (UInt8.ofNat u.toNat :: l) else none
def decBits : List UInt8 → Option (List UInt8 × Nat)
  | [] => none
  | x :: r => if vB r x.toNat = true then some (r, x.toNat) else none
theorem decBits_cons (x : UInt8) (r : List UInt8) : decBits (x :: r) = if vB r x.toNat = true then some (r, x.toNat) else none := rfl
theorem vB_true {l : List UInt8} {u : Int} : vB l u = true ↔ 0 ≤ u ∧ u ≤ 7 ∧ (l = [] → u = 0) ∧ lastO l % 2 ^ u.toNat = 0 := by
  unfold vB
  rw [decide_eq_true_eq]
theorem vB_nil : vB [] 0 = true := by decide
theorem lenB_bd (l : List UInt8) (u : Int) : 0 ≤ lenB l u ∧ lenB l u ≤ 8 * l.length := by
  unfold lenB
  split
  · rename_i h
    obtain ⟨h1, h2, h3, _⟩ := vB_true.1 h
    rcases l with _ | ⟨x, r⟩
    · have := h3 rfl
      simp only [List.length_nil]
      omega
    · simp only [List.length_cons]
      omega
  · omega
theorem decBits_enc {l : List UInt8} {u : Int} (h : vB l u = true) : decBits (UInt8.ofNat u.toNat :: l) = some (l, u.toNat) := by
  obtain ⟨h1, h2, _⟩ := vB_true.1 h
  rw [decBits_cons]
  have e : (UInt8.ofNat u.toNat).toNat = u.toNat := byte_nat (by omega)
  rw [e, show ((u.toNat : Nat) : Int) = u by omega, if_pos h]
theorem decBits_some {c l : List UInt8} {u : Nat} (h : decBits c = some (l, u)) : vB l u = true ∧ u ≤ 7 ∧ c = UInt8.ofNat u :: l := by
  rcases c with _ | ⟨x, r⟩
  · cases h
  · rw [decBits_cons] at h
    split at h
    · rename_i hv
      injection h with h
      injection h with h1 h2
      subst h1 h2
      refine ⟨hv, ?_, by rw [UInt8.ofNat_toNat]⟩
      have := (vB_true.1 hv).2.1
      omega
    · cases h
theorem encBits_dec {c l : List UInt8} {u : Nat} (h : decBits c = some (l, u)) : encBits l u = some c := by
  obtain ⟨h1, _, h3⟩ := decBits_some h
  unfold encBits
  rw [if_pos h1, h3]
  rfl
/-- the unused bits are 0 -/
theorem unused_zero {l : List UInt8} {u : Nat} (h : vB l u = true) {i : Nat} (h1 : 8 * l.length ≤ i + u) : bitL l i = false := by
  obtain ⟨_, h7, h0, hm⟩ := vB_true.1 h
  by_cases hi : i / 8 < l.length
  · obtain ⟨n, hn⟩ : ∃ n, l.length = n + 1 := ⟨l.length - 1, by omega⟩
    rw [lastO_at hn] at hm
    have h8 : i / 8 = n := by omega
    rw [bitL_at hi]
    simp only [h8]
    have h9 := (l[n]'(by omega)).toNat_lt
    generalize (l[n]'(by omega)).toNat = x at *
    obtain ⟨k, hk⟩ : ∃ k, 7 - i % 8 = k := ⟨_, rfl⟩
    have hku : k < u := by omega
    rw [hk]
    have hu : u ≤ 7 := by omega
    rw [show ((u : Int)).toNat = u by omega] at hm
    have hx : x / 2 ^ k % 2 = 0 := by
      obtain ⟨d, rfl⟩ : ∃ d, u = k + 1 + d := ⟨u - k - 1, by omega⟩
      obtain ⟨q, hq⟩ := Nat.dvd_of_mod_eq_zero hm
      rw [hq, show 2 ^ (k + 1 + d) * q = 2 ^ k * (2 * (2 ^ d * q)) by rw [Nat.pow_add, Nat.pow_succ]; simp only [Nat.mul_assoc], Nat.mul_div_cancel_left _ (Nat.two_pow_pos k), Nat.mul_mod_right]
    rw [hx]
    rfl
  · exact bitL_out (by omega)
theorem low_zero {x : Nat} : ∀ u : Nat, (∀ k, k < u → x / 2 ^ k % 2 = 0) → x % 2 ^ u = 0
  | 0, _ => Nat.mod_one x
  | u + 1, h => by
    rw [Nat.mod_pow_succ, low_zero u (fun k hk => h k (by omega)), h u (by omega)]
    rfl
theorem valid_bits {l : List UInt8} {u : Nat} (h7 : u ≤ 7) (h0 : l = [] → u = 0) (h : ∀ i, i < 8 * l.length → 8 * l.length ≤ i + u → bitL l i = false) : vB l u = true := by
  rw [vB_true]
  refine ⟨by omega, by omega, fun e => by rw [h0 e]; rfl, ?_⟩
  rw [show ((u : Int)).toNat = u by omega]
  rcases hl : l.length with _ | n
  · obtain rfl := List.length_eq_zero_iff.1 hl
    rw [h0 rfl]
    rfl
  · rw [lastO_at hl]
    apply low_zero
    intro k hk
    have hb := h (8 * n + (7 - k)) (by omega) (by omega)
    rw [bitL_at (by omega)] at hb
    have h1 : (8 * n + (7 - k)) / 8 = n := by omega
    have h2 : 7 - (8 * n + (7 - k)) % 8 = k := by omega
    simp only [h1, h2] at hb
    generalize (l[n]'(by omega)).toNat = x at *
    have hx : ¬ x / 2 ^ k % 2 = 1 := by simpa using hb
    omega

/-! ### sets -/
/-- the bit i of a number -/
def bN (n i : Nat) : Bool := n / 2 ^ i % 2 == 1
theorem bN_bt (n i : Nat) : bt (bN n i) = n / 2 ^ i % 2 := bt_beq _
theorem bN_high {n i j : Nat} (h : n < 2 ^ i) (hj : i ≤ j) : bN n j = false := by
  unfold bN
  rw [Nat.div_eq_of_lt (Nat.lt_of_lt_of_le h (Nat.pow_le_pow_right (by omega) hj))]
  rfl
theorem bN_top {n t : Nat} (h : 2 ^ t ≤ n) (h2 : n < 2 ^ (t + 1)) : bN n t = true := by
  unfold bN
  rw [Nat.pow_succ] at h2
  have : n / 2 ^ t = 1 := by
    rw [Nat.div_eq_iff (Nat.two_pow_pos t)]
    omega
  rw [this]
  rfl
/-- the set with the bits f below m -/
def setTo (f : Nat → Bool) : Nat → Nat
  | 0 => 0
  | m + 1 => setTo f m + bt (f m) * 2 ^ m
theorem setTo_lt (f : Nat → Bool) : ∀ m, setTo f m < 2 ^ m
  | 0 => by simp [setTo]
  | m + 1 => by
    have h := setTo_lt f m
    have h2 := bt_le (f m)
    have h3 : bt (f m) * 2 ^ m ≤ 1 * 2 ^ m := Nat.mul_le_mul_right _ h2
    show setTo f m + _ < _
    rw [Nat.pow_succ]
    omega
theorem setTo_congr {f g : Nat → Bool} : ∀ m, (∀ i, i < m → f i = g i) → setTo f m = setTo g m
  | 0, _ => rfl
  | m + 1, h => by
    show setTo f m + _ = setTo g m + _
    rw [setTo_congr m (fun i hi => h i (by omega)), h m (by omega)]
theorem setTo_num (n : Nat) : ∀ m, setTo (bN n) m = n % 2 ^ m
  | 0 => by simp [setTo, Nat.mod_one]
  | m + 1 => by
    show setTo (bN n) m + _ = _
    rw [setTo_num n m, bN_bt, Nat.mod_pow_succ, Nat.mul_comm]
theorem setTo_more {f : Nat → Bool} {m : Nat} : ∀ d, (∀ i, m ≤ i → f i = false) → setTo f (m + d) = setTo f m
  | 0, _ => rfl
  | d + 1, h => by
    show setTo f (m + d) + bt (f (m + d)) * 2 ^ (m + d) = _
    rw [setTo_more d h, h (m + d) (by omega)]
    simp [bt]
theorem bN_setTo {f : Nat → Bool} {i : Nat} : ∀ {m : Nat}, i < m → bN (setTo f m) i = f i
  | 0, h => by omega
  | m + 1, h => by
    show bN (setTo f m + bt (f m) * 2 ^ m) i = _
    by_cases him : i = m
    · subst him
      unfold bN
      rw [Nat.add_mul_div_right _ _ (Nat.two_pow_pos i), Nat.div_eq_of_lt (setTo_lt f i), Nat.zero_add]
      cases f i <;> rfl
    · obtain ⟨d, rfl⟩ : ∃ d, m = i + 1 + d := ⟨m - i - 1, by omega⟩
      rw [← bN_setTo (f := f) (i := i) (m := i + 1 + d) (by omega)]
      unfold bN
      rw [show bt (f (i + 1 + d)) * 2 ^ (i + 1 + d) = (bt (f (i + 1 + d)) * 2 ^ d * 2) * 2 ^ i by
        rw [show i + 1 + d = d + 1 + i by omega, Nat.pow_add, Nat.pow_succ]
        simp only [Nat.mul_assoc], Nat.add_mul_div_right _ _ (Nat.two_pow_pos i), Nat.add_mul_mod_self_right]

/-! ### members -/
def memTo (f : Nat → Bool) (m : Nat) : List Nat := (List.range m).filter f
theorem memTo_zero (f : Nat → Bool) : memTo f 0 = [] := rfl
theorem memTo_yes {f : Nat → Bool} {m : Nat} (h : f m = true) : memTo f (m + 1) = memTo f m ++ [m] := by
  unfold memTo
  rw [List.range_succ, List.filter_append]
  simp [h]
theorem memTo_no {f : Nat → Bool} {m : Nat} (h : f m = false) : memTo f (m + 1) = memTo f m := by
  unfold memTo
  rw [List.range_succ, List.filter_append]
  simp [h]
theorem memTo_len (f : Nat → Bool) (m : Nat) : (memTo f m).length ≤ m := by
  unfold memTo
  have h := List.length_filter_le f (List.range m)
  rw [List.length_range] at h
  exact h
theorem memTo_mem {f : Nat → Bool} {m t : Nat} : t ∈ memTo f m ↔ t < m ∧ f t = true := by
  unfold memTo
  rw [List.mem_filter, List.mem_range]
theorem memTo_more {f : Nat → Bool} {m : Nat} (h : ∀ i, m ≤ i → f i = false) : ∀ d, memTo f (m + d) = memTo f m
  | 0 => rfl
  | d + 1 => by
    show memTo f (m + d + 1) = _
    rw [memTo_no (h (m + d) (by omega)), memTo_more h d]
theorem memTo_upto {n i j : Nat} (h : n < 2 ^ i) (hj : i ≤ j) : memTo (bN n) j = memTo (bN n) i := by
  obtain ⟨d, rfl⟩ : ∃ d, j = i + d := ⟨j - i, by omega⟩
  exact memTo_more (fun k hk => bN_high h hk) d
theorem memTo_prefix (f : Nat → Bool) (i : Nat) : ∀ d, memTo f i <+: memTo f (i + d)
  | 0 => List.prefix_refl _
  | d + 1 => by
    have h := memTo_prefix f i d
    show _ <+: memTo f (i + d + 1)
    rcases hf : f (i + d) with _ | _
    · rw [memTo_no hf]; exact h
    · rw [memTo_yes hf]; exact h.trans (List.prefix_append _ _)
/-- the member that follows those below i is i, where i is a member -/
theorem memTo_at {f : Nat → Bool} {i m : Nat} (h : i < m) (hf : f i = true) : (memTo f m)[(memTo f i).length]? = some i := by
  obtain ⟨d, rfl⟩ : ∃ d, m = i + 1 + d := ⟨m - i - 1, by omega⟩
  obtain ⟨r, hr⟩ := memTo_prefix f (i + 1) d
  rw [← hr, memTo_yes hf, List.append_assoc, List.getElem?_append_right (Nat.le_refl _), Nat.sub_self]
  rfl
theorem memTo_lt {f : Nat → Bool} {i m : Nat} (h : i < m) (hf : f i = true) : (memTo f i).length < (memTo f m).length := by
  have h1 := memTo_at h hf
  exact (List.getElem?_eq_some_iff.1 h1).1
theorem memTo_nodup (f : Nat → Bool) (m : Nat) : (memTo f m).Nodup := (List.nodup_range).filter f
theorem memTo_top {n t j : Nat} (h : 2 ^ t ≤ n) (h2 : n < 2 ^ (t + 1)) (hj : t < j) : memTo (bN n) j = memTo (bN n) t ++ [t] := by
  rw [memTo_upto h2 (by omega), memTo_yes (bN_top h h2)]
theorem memTo_none (m : Nat) : memTo (bN 0) m = [] := by
  rw [memTo_upto (i := 0) (by omega) (by omega)]
  rfl
/-- the bits that a list names -/
def inL (m : List Nat) : Nat → Bool := fun t => decide (t ∈ m)
theorem inL_nil : inL [] = fun _ => false := by funext t; simp [inL]
theorem inL_take {m : List Nat} {k : Nat} (h : k < m.length) : inL (m.take (k + 1)) = withBit (inL (m.take k)) m[k] := by
  funext t
  unfold inL withBit
  rw [List.take_succ_eq_append_getElem h, Bool.eq_iff_iff]
  simp only [List.mem_append, List.mem_singleton, decide_eq_true_eq, Bool.or_eq_true, beq_iff_eq]
theorem inL_new {m : List Nat} {k : Nat} (hn : m.Nodup) (h : k < m.length) : inL (m.take k) m[k] = false := by
  unfold inL
  rw [decide_eq_false_iff_not]
  intro hm
  obtain ⟨j, hj, e⟩ := List.mem_take_iff_getElem.1 hm
  have := (List.getElem_inj hn).1 e
  omega
theorem inL_mem {n m : Nat} (h : n < 2 ^ m) : inL (memTo (bN n) m) = bN n := by
  funext t
  unfold inL
  rw [Bool.eq_iff_iff, decide_eq_true_eq, memTo_mem]
  constructor
  · exact fun x => x.2
  · intro x
    refine ⟨?_, x⟩
    by_cases ht : t < m
    · exact ht
    · rw [bN_high h (by omega)] at x
      cases x
end Go.Proofs.Ytfflfahhfhnkdaa
