/-
  Plain mathematics: sums of numbers in octets, a number added, division by ten in place, the complement.
-/
import Derived.Test.YtammegdfjgphkaaDoorIntDec
namespace Go.Proofs.YtammegdfjgphkaaDoor

/-- one octet of a sum -/
theorem add_step {tl : List UInt8} {N x z S : Nat} {y : UInt8} (h : bnum tl + N * 256 ^ tl.length = S) (hy : y.toNat = (N + x + z) % 256) :
    bnum (y :: tl) + (N + x + z) / 256 * 256 ^ (y :: tl).length = S + x * 256 ^ tl.length + z * 256 ^ tl.length := by
  rw [bnum_cons, List.length_cons, pow_succ256, hy, ← h]
  generalize bnum tl = T at *
  generalize 256 ^ tl.length = P at *
  have hm := Nat.div_add_mod (N + x + z) 256
  generalize (N + x + z) / 256 = q at *
  generalize (N + x + z) % 256 = r at *
  have e1 : r * P + q * (P * 256) = (256 * q + r) * P := by
    rw [Nat.add_mul, Nat.mul_comm P 256, ← Nat.mul_assoc, Nat.mul_comm q 256]
    omega
  have e2 : (N + x + z) * P = N * P + x * P + z * P := by rw [Nat.add_mul, Nat.add_mul]
  rw [hm, e2] at e1
  omega
theorem bnum_drop {l : List UInt8} {k : Nat} (h : k < l.length) : bnum (l.drop k) = l[k].toNat * 256 ^ (l.length - (k + 1)) + bnum (l.drop (k + 1)) := by
  rw [List.drop_eq_getElem_cons h, bnum_cons, List.length_drop]
/-- plus, an octet further -/
theorem plus_step {l tl : List UInt8} {k N n0 : Nat} {y : UInt8} (hk : k < l.length) (hl : tl.length = l.length - (k + 1)) (h : bnum tl + N * 256 ^ tl.length = bnum (l.drop (k + 1)) + n0) (hy : y.toNat = (N + l[k].toNat) % 256) :
    bnum (y :: tl) + (N + l[k].toNat) / 256 * 256 ^ (y :: tl).length = bnum (l.drop k) + n0 := by
  have := add_step (z := 0) h (by simpa using hy)
  rw [Nat.add_zero, Nat.zero_mul, Nat.add_zero] at this
  rw [this, bnum_drop hk, hl]
  omega
/-- the last i octets -/
def lastN (b : List UInt8) (i : Nat) : List UInt8 := b.drop (b.length - i)
def lastAt (b : List UInt8) (i : Nat) : Nat := if i ≤ b.length then (b.getD (b.length - i) 0).toNat else 0
theorem lastN_zero (b : List UInt8) : lastN b 0 = [] := by simp [lastN]
theorem lastN_all {b : List UInt8} {i : Nat} (h : b.length ≤ i) : lastN b i = b := by
  unfold lastN
  rw [show b.length - i = 0 from by omega]
  rfl
theorem lastN_succ (b : List UInt8) (i : Nat) : bnum (lastN b (i + 1)) = lastAt b (i + 1) * 256 ^ i + bnum (lastN b i) := by
  unfold lastAt
  by_cases h : i + 1 ≤ b.length
  · rw [if_pos h]
    unfold lastN
    have hk : b.length - (i + 1) < b.length := by omega
    rw [bnum_drop hk, show b.length - (b.length - (i + 1) + 1) = i from by omega, show b.length - (i + 1) + 1 = b.length - i from by omega]
    simp [hk]
  · rw [if_neg h, lastN_all (by omega), lastN_all (by omega)]
    omega
theorem sum_step {o b tl : List UInt8} {k i N : Nat} {y : UInt8} (hk : k < o.length) (hi : i + 1 + k = o.length) (hl : tl.length = i) (h : bnum tl + N * 256 ^ tl.length = bnum (o.drop (k + 1)) + bnum (lastN b i)) (hy : y.toNat = (N + o[k].toNat + lastAt b (i + 1)) % 256) :
    bnum (y :: tl) + (N + o[k].toNat + lastAt b (i + 1)) / 256 * 256 ^ (y :: tl).length = bnum (o.drop k) + bnum (lastN b (i + 1)) := by
  rw [add_step h hy, bnum_drop hk, lastN_succ, hl, show o.length - (k + 1) = i from by omega]
  omega
/-- nothing is carried out of a sum -/
theorem sum_end {a b tl : List UInt8} {N : Nat} (hab : b.length ≤ a.length) (hl : tl.length = a.length + 1) (h : bnum tl + N * 256 ^ tl.length = bnum a + bnum b) : bnum tl = bnum a + bnum b := by
  have h1 := bnum_lt a
  have h2 := bnum_lt b
  have h3 := pow_mono256 hab
  rcases Nat.eq_zero_or_pos N with h0 | h0
  · rw [h0] at h
    omega
  · have h4 := Nat.mul_le_mul_right (256 ^ tl.length) h0
    rw [hl, pow_succ256] at h4 h
    generalize 256 ^ a.length = P at *
    omega
/-- division by ten, an octet further -/
theorem div_step {q l : List UInt8} {k R : Nat} {y : UInt8} (hk : k < l.length) (h : bnum q * 10 + R = bnum (l.take k)) (hR : R < 10) (hy : y.toNat = (R * 256 + l[k].toNat) / 10) :
    bnum (q ++ [y]) * 10 + (R * 256 + l[k].toNat) % 10 = bnum (l.take (k + 1)) ∧ (R * 256 + l[k].toNat) / 10 < 256 := by
  have hx := l[k].toNat_lt
  rw [bnum_snoc, bnum_take l hk, ← h, hy]
  omega
theorem set_mid (q r : List UInt8) (x y : UInt8) : (q ++ x :: r).set q.length y = (q ++ [y]) ++ r := by
  rw [List.set_append_right _ _ (Nat.le_refl _), Nat.sub_self, List.set_cons_zero]
  simp
theorem get_mid (q r : List UInt8) (x : UInt8) (h : q.length < (q ++ x :: r).length) : (q ++ x :: r)[q.length] = x := by
  rw [List.getElem_append_right (Nat.le_refl _)]
  simp
/-- the complement, octet by octet -/
def cplB (x : UInt8) : UInt8 := 255 - x
theorem cplB_num (x : UInt8) : (cplB x).toNat = 255 - x.toNat := by
  have h : ∀ n : Fin 256, ((255 : UInt8) - UInt8.ofNat n.val).toNat = 255 - n.val := by decide +kernel
  have := h ⟨x.toNat, x.toNat_lt⟩
  simpa [cplB] using this
theorem cpl_num (l : List UInt8) : bnum (l.map cplB) + bnum l + 1 = 256 ^ l.length := by
  induction l with
  | nil => simp [bnum_nil]
  | cons x l ih =>
    rw [List.map_cons, bnum_cons, bnum_cons, List.length_map, List.length_cons, pow_succ256, cplB_num]
    have hx := x.toNat_lt
    generalize 256 ^ l.length = P at *
    have e : (255 - x.toNat) * P + x.toNat * P = 255 * P := by
      rw [← Nat.add_mul]
      congr 1
      omega
    omega
/-- of a negative integer: the number without the hyphen, by complement and one more -/
theorem cpl_neg {l : List UInt8} (h : hiB l = true) : ((bnum (l.map cplB) + 1 : Nat) : Int) = -(sval l) := by
  have := cpl_num l
  unfold sval
  rw [if_pos h]
  omega
/-- the digits, the last one first: T ahead of nothing, or the digits of what is left ahead of T -/
def DecSt (N m : Nat) (T : List UInt8) : Prop := (T = [] ∧ m = N) ∨ (T ≠ [] ∧ (if m = 0 then decN N = T else decN N = decN m ++ T))
theorem decSt_step {N m : Nat} {T : List UInt8} (h : DecSt N m T) (h0 : T = [] ∨ m ≠ 0) : DecSt N (m / 10) (UInt8.ofNat (48 + m % 10) :: T) := by
  have key : (if m / 10 = 0 then decN m = [UInt8.ofNat (48 + m % 10)] else decN m = decN (m / 10) ++ [UInt8.ofNat (48 + m % 10)]) := by
    by_cases h1 : m / 10 = 0
    · rw [if_pos h1]
      exact decN_last h1
    · rw [if_neg h1]
      exact decN_big (by omega)
  refine .inr ⟨by simp, ?_⟩
  rcases h with ⟨rfl, rfl⟩ | ⟨hT, h⟩
  · exact key
  · have hm : m ≠ 0 := by
      rcases h0 with h0 | h0
      · exact absurd h0 hT
      · exact h0
    rw [if_neg hm] at h
    rw [h]
    by_cases h1 : m / 10 = 0
    · rw [if_pos h1] at key ⊢
      rw [key]
      rfl
    · rw [if_neg h1] at key ⊢
      rw [key, List.append_assoc]
      rfl
theorem decSt_end {N : Nat} {T : List UInt8} (h : DecSt N 0 T) (hT : T ≠ []) : decN N = T := by
  rcases h with ⟨h, _⟩ | ⟨_, h⟩
  · exact absurd h hT
  · simpa using h
end Go.Proofs.YtammegdfjgphkaaDoor
