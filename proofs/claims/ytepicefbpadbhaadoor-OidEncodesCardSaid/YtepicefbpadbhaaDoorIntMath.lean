/-
  Plain mathematics of the integer layer: two's complement, the fewest octets, order.
-/
import Derived.Test.YtepicefbpadbhaaDoorNumMath
import Derived.Test.YtepicefbpadbhaaDoorMath
namespace Go.Proofs.YtepicefbpadbhaaDoor

/-- the highest bit -/
def hiB : List UInt8 → Bool
  | [] => false
  | x :: _ => decide (128 ≤ x.toNat)
/-- the integer with the two's complement l -/
def sval (l : List UInt8) : Int := if hiB l = true then (bnum l : Int) - (256 ^ l.length : Nat) else bnum l
/-- valid contents octets of an integer -/
def vI : List UInt8 → Bool
  | [] => false
  | [_] => true
  | x :: y :: _ => !(decide (x.toNat = 0) && decide (y.toNat < 128)) && !(decide (x.toNat = 255) && decide (128 ≤ y.toNat))

theorem pow_pos256 (k : Nat) : 0 < 256 ^ k := Nat.pow_pos (by omega)
theorem pow_succ256 (k : Nat) : 256 ^ (k + 1) = 256 ^ k * 256 := Nat.pow_succ ..
theorem sval_nil : sval [] = 0 := by simp [sval, hiB, bnum_nil]
theorem sval_cons (x : UInt8) (l : List UInt8) : sval (x :: l) = (if 128 ≤ x.toNat then (x.toNat : Int) - 256 else x.toNat) * (256 ^ l.length : Nat) + bnum l := by
  unfold sval hiB
  rw [bnum_cons, List.length_cons, pow_succ256]
  by_cases h : 128 ≤ x.toNat
  · rw [if_pos (by simpa using h), if_pos h]
    simp only [Int.natCast_add, Int.natCast_mul, Int.sub_mul]
    omega
  · rw [if_neg (by simpa using h), if_neg h]
    simp
theorem sval_one (x : UInt8) : sval [x] = if 128 ≤ x.toNat then (x.toNat : Int) - 256 else x.toNat := by
  rw [sval_cons]
  simp [bnum_nil]
/-- the bounds of so many octets -/
theorem sval_bd {x : UInt8} {l : List UInt8} : -((128 * 256 ^ l.length : Nat) : Int) ≤ sval (x :: l) ∧ sval (x :: l) < (128 * 256 ^ l.length : Nat) := by
  rw [sval_cons]
  have hb := bnum_lt l
  have hx := x.toNat_lt
  generalize 256 ^ l.length = P at *
  generalize bnum l = B at *
  by_cases h : 128 ≤ x.toNat
  · rw [if_pos h]
    obtain ⟨e, he⟩ : ∃ e : Nat, x.toNat = 128 + e := ⟨x.toNat - 128, by omega⟩
    have h1 : e * P ≤ 127 * P := Nat.mul_le_mul_right P (by omega)
    have h2 : ((x.toNat : Int) - 256) * P = (e * P : Nat) - (128 * P : Nat) := by
      rw [he]
      simp only [Int.natCast_mul, ← Int.sub_mul]
      congr 1
      omega
    rw [h2]
    omega
  · rw [if_neg h]
    have h1 : x.toNat * P ≤ 127 * P := Nat.mul_le_mul_right P (by omega)
    have h2 : (x.toNat : Int) * P = (x.toNat * P : Nat) := (Int.natCast_mul _ _).symm
    rw [h2]
    omega
theorem sval_nonneg_iff (l : List UInt8) : sval l < 0 ↔ hiB l = true := by
  unfold sval
  have hb := bnum_lt l
  by_cases h : hiB l = true
  · rw [if_pos h]
    constructor
    · intro _; exact h
    · intro _; omega
  · rw [if_neg h]
    constructor
    · intro h2; omega
    · intro h2; exact absurd h2 h
/-- dropping an octet that valid contents octets do not have -/
theorem sval_drop {x y : UInt8} {l : List UInt8} (h : vI (x :: y :: l) = false) : sval (x :: y :: l) = sval (y :: l) := by
  rw [sval_cons x, sval_cons y, bnum_cons, List.length_cons, pow_succ256]
  unfold vI at h
  rw [Bool.and_eq_false_iff] at h
  have hx := x.toNat_lt
  rcases h with h | h
  · simp only [Bool.not_eq_false', Bool.and_eq_true, decide_eq_true_eq] at h
    rw [h.1, if_neg (show ¬ 128 ≤ 0 by omega), if_neg (show ¬ 128 ≤ y.toNat by omega)]
    generalize 256 ^ l.length = P at *
    simp only [Int.natCast_mul, Int.natCast_add]
    omega
  · simp only [Bool.not_eq_false', Bool.and_eq_true, decide_eq_true_eq] at h
    rw [h.1, if_pos (show 128 ≤ 255 by omega), if_pos h.2]
    generalize 256 ^ l.length = P at *
    simp only [Int.natCast_mul, Int.natCast_add, Int.sub_mul]
    omega
/-- contents octets that are valid are the fewest -/
theorem sval_min {x y : UInt8} {l : List UInt8} (h : vI (x :: y :: l) = true) : ((128 * 256 ^ l.length : Nat) : Int) ≤ sval (x :: y :: l) ∨ sval (x :: y :: l) < -((128 * 256 ^ l.length : Nat) : Int) := by
  rw [sval_cons x, bnum_cons, List.length_cons, pow_succ256]
  unfold vI at h
  rw [Bool.and_eq_true] at h
  simp only [Bool.not_eq_true', Bool.and_eq_false_iff, decide_eq_false_iff_not] at h
  obtain ⟨h1, h2⟩ := h
  have hx := x.toNat_lt
  have hy := y.toNat_lt
  have hb := bnum_lt l
  generalize 256 ^ l.length = P at *
  generalize bnum l = B at *
  have hP : 0 < P := by omega
  have yP : y.toNat * P ≤ 255 * P := Nat.mul_le_mul_right P (by omega)
  by_cases h8 : 128 ≤ x.toNat
  · right
    rw [if_pos h8]
    by_cases h255 : x.toNat = 255
    · rw [h255]
      have hy2 : y.toNat < 128 := by omega
      have y2 : y.toNat * P ≤ 127 * P := Nat.mul_le_mul_right P (by omega)
      have e : (((255 : Nat) : Int) - 256) * ((P * 256 : Nat) : Int) = -((256 * P : Nat) : Int) := by
        simp only [Int.natCast_mul]
        omega
      rw [e]
      omega
    · obtain ⟨e, he⟩ : ∃ e : Nat, e + x.toNat = 254 := ⟨254 - x.toNat, by omega⟩
      have e1 : ((x.toNat : Int) - 256) * ((P * 256 : Nat) : Int) = -((512 * P : Nat) : Int) - ((e * (P * 256) : Nat) : Int) := by
        have : (x.toNat : Int) - 256 = -2 - e := by omega
        rw [this, Int.sub_mul]
        simp only [Int.natCast_mul]
        omega
      rw [e1]
      omega
  · left
    rw [if_neg h8]
    by_cases hx0 : x.toNat = 0
    · have hy2 : 128 ≤ y.toNat := by omega
      have y2 : 128 * P ≤ y.toNat * P := Nat.mul_le_mul_right P hy2
      rw [hx0]
      simp only [Int.natCast_add, Int.natCast_mul] at *
      omega
    · have h1' : 1 * (P * 256) ≤ x.toNat * (P * 256) := Nat.mul_le_mul_right _ (by omega)
      have e1 : ((x.toNat : Int)) * ((P * 256 : Nat) : Int) = ((x.toNat * (P * 256) : Nat) : Int) := (Int.natCast_mul _ _).symm
      rw [e1]
      omega

theorem bnum_inj : ∀ {l r : List UInt8}, l.length = r.length → bnum l = bnum r → l = r
  | [], [], _, _ => rfl
  | x :: l, y :: r, hl, h => by
    simp only [List.length_cons, Nat.add_right_cancel_iff] at hl
    rw [bnum_cons, bnum_cons, hl] at h
    have h1 := bnum_lt l
    have h2 := bnum_lt r
    rw [hl] at h1
    generalize 256 ^ r.length = P at *
    have hxy : x.toNat = y.toNat := by
      rcases Nat.lt_trichotomy x.toNat y.toNat with hlt | heq | hgt
      · have := Nat.mul_le_mul_right P (show x.toNat + 1 ≤ y.toNat from hlt)
        rw [Nat.succ_mul] at this
        omega
      · exact heq
      · have := Nat.mul_le_mul_right P (show y.toNat + 1 ≤ x.toNat from hgt)
        rw [Nat.succ_mul] at this
        omega
    rw [hxy] at h
    rw [UInt8.toNat_inj.1 hxy, bnum_inj hl (by omega)]
  | [], _ :: _, hl, _ => absurd hl (by simp)
  | _ :: _, [], hl, _ => absurd hl (by simp)
theorem sval_inj_len {l r : List UInt8} (hl : l.length = r.length) (h : sval l = sval r) : l = r := by
  have h1 := (sval_nonneg_iff l)
  have h2 := (sval_nonneg_iff r)
  have hh : hiB l = hiB r := by
    rw [Bool.eq_iff_iff, ← h1, ← h2, h]
  unfold sval at h
  rw [hh, hl] at h
  refine bnum_inj hl ?_
  split at h <;> omega
theorem pow_mono256 {a b : Nat} (h : a ≤ b) : 256 ^ a ≤ 256 ^ b := Nat.pow_le_pow_right (by omega) h
/-- an integer has one encoding -/
theorem sval_inj {l r : List UInt8} (hl : vI l = true) (hr : vI r = true) (h : sval l = sval r) : l = r := by
  refine sval_inj_len ?_ h
  have key : ∀ {l r : List UInt8}, vI l = true → vI r = true → sval l = sval r → ¬ l.length < r.length := by
    intro l r hl hr h hlt
    match r, hr, h, hlt with
    | x :: y :: r, hr, h, hlt =>
      match l, hl, h, hlt with
      | z :: l, hl, h, hlt =>
        have h1 := sval_min hr
        have h2 := sval_bd (x := z) (l := l)
        simp only [List.length_cons] at hlt
        have h3 := pow_mono256 (show l.length ≤ r.length by omega)
        rw [← h] at h1
        generalize 256 ^ r.length = P at *
        generalize 256 ^ l.length = Q at *
        omega
      | [], hl, _, _ => cases hl
    | [x], _, h, hlt =>
      match l, hl, hlt with
      | [], hl, _ => cases hl
      | _ :: _, _, hlt => simp at hlt
    | [], hr, _, _ => cases hr
  have h1 := key hl hr h
  have h2 := key hr hl h.symm
  omega

/-- the fewest octets of an integer -/
def senc (n : Int) : List UInt8 :=
  if h : -128 ≤ n ∧ n < 128 then [UInt8.ofNat (n % 256).toNat] else senc (n / 256) ++ [UInt8.ofNat (n % 256).toNat]
termination_by n.natAbs
decreasing_by omega
theorem low_byte (n : Int) : ((UInt8.ofNat (n % 256).toNat).toNat : Int) = n % 256 := by
  rw [UInt8.toNat_ofNat']
  omega
theorem sval_snoc {l : List UInt8} (hl : l ≠ []) (x : UInt8) : sval (l ++ [x]) = sval l * 256 + x.toNat := by
  match l, hl with
  | y :: l, _ =>
    rw [List.cons_append, sval_cons, sval_cons, bnum_snoc, List.length_append, List.length_singleton, pow_succ256]
    simp only [Int.natCast_add, Int.natCast_mul, ← Int.mul_assoc, Int.add_mul]
    omega
theorem senc_small {n : Int} (h : -128 ≤ n ∧ n < 128) : senc n = [UInt8.ofNat (n % 256).toNat] := by rw [senc, dif_pos h]
theorem senc_big {n : Int} (h : ¬ (-128 ≤ n ∧ n < 128)) : senc n = senc (n / 256) ++ [UInt8.ofNat (n % 256).toNat] := by rw [senc, dif_neg h]
theorem senc_ne (n : Int) : senc n ≠ [] := by
  by_cases h : -128 ≤ n ∧ n < 128
  · rw [senc_small h]; simp
  · rw [senc_big h]; simp
theorem sval_senc (k : Nat) : ∀ n : Int, n.natAbs ≤ k → sval (senc n) = n := by
  induction k using Nat.strongRecOn with
  | _ k ih =>
    intro n hk
    by_cases h : -128 ≤ n ∧ n < 128
    · rw [senc_small h, sval_one]
      have := low_byte n
      split <;> omega
    · rw [senc_big h, sval_snoc (senc_ne _), ih (n / 256).natAbs (by omega) _ (Nat.le_refl _), low_byte]
      omega
/-- an octet behind valid contents octets -/
theorem vI_snoc {l : List UInt8} {x : UInt8} (h : vI l = true) (hb : ¬ (-128 ≤ sval (l ++ [x]) ∧ sval (l ++ [x]) < 128)) : vI (l ++ [x]) = true := by
  match l, h with
  | [y], _ =>
    rcases hv : vI ([y] ++ [x]) with _ | _
    · have := sval_drop hv
      have h1 := sval_bd (x := x) (l := [])
      simp only [List.length_nil, Nat.pow_zero] at h1
      rw [List.singleton_append, this] at hb
      omega
    · rfl
  | y :: z :: l, h =>
    show vI (y :: z :: (l ++ [x])) = true
    unfold vI at h ⊢
    exact h
theorem vI_senc (k : Nat) : ∀ n : Int, n.natAbs ≤ k → vI (senc n) = true := by
  induction k using Nat.strongRecOn with
  | _ k ih =>
    intro n hk
    by_cases h : -128 ≤ n ∧ n < 128
    · rw [senc_small h]; rfl
    · rw [senc_big h]
      refine vI_snoc (ih (n / 256).natAbs (by omega) _ (Nat.le_refl _)) ?_
      rw [← senc_big h, sval_senc _ n (Nat.le_refl _)]
      exact h
theorem senc_val (n : Int) : sval (senc n) = n := sval_senc _ n (Nat.le_refl _)
theorem senc_valid (n : Int) : vI (senc n) = true := vI_senc _ n (Nat.le_refl _)
theorem senc_of {l : List UInt8} (h : vI l = true) : senc (sval l) = l := sval_inj (senc_valid _) h (senc_val _)

/-- octets that are too many are dropped -/
def stripI : List UInt8 → List UInt8
  | [] => []
  | [x] => [x]
  | x :: y :: l => if vI (x :: y :: l) = true then x :: y :: l else stripI (y :: l)
theorem stripI_eq : ∀ (l : List UInt8), l ≠ [] → stripI l = senc (sval l)
  | [], h => absurd rfl h
  | [x], _ => by
    rw [stripI]
    exact (senc_of rfl).symm
  | x :: y :: l, _ => by
    rw [stripI]
    by_cases h : vI (x :: y :: l) = true
    · rw [if_pos h, senc_of h]
    · rw [if_neg h, stripI_eq (y :: l) (by simp), sval_drop (by simpa using h)]
theorem sval_zero_cons (l : List UInt8) : sval (0 :: l) = bnum l := by
  rw [sval_cons]
  simp
/-- FromUnsigned -/
theorem fromU_eq (l : List UInt8) : stripI (0 :: l) = senc (bnum l) := by rw [stripI_eq _ (by simp), sval_zero_cons]
/-- Unsigned, of valid contents octets that are not negative -/
def unsI : List UInt8 → List UInt8
  | [] => []
  | [x] => [x]
  | x :: y :: l => if x = 0 then y :: l else x :: y :: l
theorem unsI_num {l : List UInt8} (h : hiB l = false) : (bnum (unsI l) : Int) = sval l := by
  have e : sval l = bnum l := by unfold sval; rw [h]; simp
  rw [e]
  match l with
  | [] => rfl
  | [x] => rfl
  | x :: y :: l =>
    show ((bnum (if x = 0 then y :: l else x :: y :: l) : Nat) : Int) = _
    by_cases hx : x = 0
    · subst hx
      rw [if_pos rfl, bnum_zero]
    · rw [if_neg hx]
theorem unsI_back {l : List UInt8} (hv : vI l = true) (h : hiB l = false) : senc (bnum (unsI l)) = l := by rw [unsI_num h, senc_of hv]

/-- octets of one length are compared as numbers -/
theorem lex_num : ∀ {l r : List UInt8}, l.length = r.length → lex l r = sgn (bnum l) (bnum r)
  | [], [], _ => by
    unfold lex
    rw [bnum_nil, sgn_self]
  | x :: l, y :: r, hl => by
    simp only [List.length_cons, Nat.add_right_cancel_iff] at hl
    have ih := lex_num hl
    have h1 := bnum_lt l
    have h2 := bnum_lt r
    rw [hl] at h1
    rw [bnum_cons, bnum_cons, hl]
    generalize 256 ^ r.length = P at *
    have hd : lex (x :: l) (y :: r) = if x.toNat < y.toNat then -1 else if y.toNat < x.toNat then 1 else lex l r := by
      rw [lex]
      by_cases hxy : x = y
      · subst hxy
        rw [if_pos rfl, if_neg (by omega), if_neg (by omega)]
      · have hne : x.toNat ≠ y.toNat := fun h => hxy (UInt8.toNat_inj.1 h)
        rw [if_neg hxy]
        unfold sgn
        by_cases hlt : x.toNat < y.toNat
        · rw [if_pos (by omega), if_pos hlt]
        · rw [if_neg (by omega), if_pos (by omega), if_neg hlt, if_pos (by omega)]
    rw [hd]
    rcases Nat.lt_trichotomy x.toNat y.toNat with hlt | heq | hgt
    · have := Nat.mul_le_mul_right P (show x.toNat + 1 ≤ y.toNat from hlt)
      rw [Nat.succ_mul] at this
      rw [if_pos hlt, sgn_lt (by omega)]
    · rw [if_neg (by omega), if_neg (by omega), ih, heq]
      unfold sgn
      simp only [Int.natCast_add]
      split <;> split <;> (try split) <;> (try split) <;> omega
    · have := Nat.mul_le_mul_right P (show y.toNat + 1 ≤ x.toNat from hgt)
      rw [Nat.succ_mul] at this
      rw [if_neg (by omega), if_pos hgt, sgn_gt (by omega)]
  | [], _ :: _, hl => absurd hl (by simp)
  | _ :: _, [], hl => absurd hl (by simp)
end Go.Proofs.YtepicefbpadbhaaDoor
